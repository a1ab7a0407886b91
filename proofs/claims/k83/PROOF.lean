import PyProof.Rows.All
import Wide.All
import OpenK.AllK
import Wide.FinOn
import Lean
import PyProof.EqAt
import PyProof.EqKinds
import PyProof.TupleCall
import PySem.Challenge.RW_pacehall_k83_rounds_and_chains
set_option Elab.async false
set_option linter.all false
set_option maxRecDepth 100000
set_option maxHeartbeats 0
open List (mem_cons_self mem_cons_of_mem mem_append_left mem_append_right length_cons map_cons length_map append_nil length_take getElem?_append_right getElem?_append_left getElem?_map mem_of_getElem? length_append length_replicate size_toArray any_cons replicate_succ flatten_cons length_singleton map_nil find?_cons getElem_mem getElem?_eq_getElem lookup_cons mem_cons not_mem_nil take_length getElem_of_mem length_range map_append map_map take_add_one mem_append take_zero getD_eq_getElem?_getD)
namespace QL
def L7:=@PySem.wpAny_bind
def L8:=@List.getElem?_eq_getElem
def L9:=@List.getElem?_eq_some_iff
def Ma:=@PySem.Heap.get?_push_of_some
def Mb:=@Nat.le_refl
def Mc:=@PySem.Heap.lt_size
def Md:=@List.length_map
def Me:=@List.mem_append_right
def Mf:=@PySem.wpAny_pure
def Mg:=@Option.map_eq_some_iff
def Mh:=@List.mem_singleton
def Mj:=@Bool.false_ne_true
def Ml:=@List.length_append
def Mm:=@Nat.lt_of_lt_of_le
def Mn:=@PySem.Heap.get?_push_size
def Mo:=@PySem.F.plainAttrs_list
def Mp:=@List.mem_cons_of_mem
def Mq:=@List.getElem?_map
def Mr:=@List.getD_eq_getElem?_getD
def Ms:=@Nat.ne_of_lt
def Mt:=@PySem.PassesOwn.never
def Mu:=@List.mem_of_getElem?
def Mv:=@List.length_singleton
def Mw:=@if_neg
def Mx:=@List.mem_cons_self
def My:=@if_pos
def Mz:=@Int.toNat_natCast
def MA:=@List.mem_append
def MB:=@decide_eq_false
def MC:=@Nat.zero_le
def MF:=@PySem.W.mg_of
def MG:=@List.getElem?_append_right
def MH:=@PySem.F.type_list_append
def MI:=@PySem.F.slot_list_append
def MJ:=@List.mem_append_left
def MK:=@List.not_mem_nil
def ML:=@List.mem_cons
def MM:=@List.mem_map
def MN:=@List.getElem?_append_left
def MO:=@PySem.Heap.get?_update_other
def MP:=@PySem.F.plain_max_loop
def MQ:=@Nat.le_trans
def MS:=@List.size_toArray
def MU:=@Option.some.inj
def MV:=@PySem.Heap.get?_update_self
def MW:=@decide_eq_true
def MX:=@List.take_length
def MY:=@List.length_range
def MZ:=@Array.getElem?_eq_some_iff
def M4:=@Nat.not_lt_zero
def M5:=@Nat.lt_irrefl
def M6:=@PySem.wpAny_holding
def M7:=@List.take_add_one
def M8:=@PySem.wpAny_truthy_bool
def M9:=@PySem.wpAny_tryCatch
def Na:=@PySem.Heap.size_push
def Nb:=@PySem.wpAny_Call_Name_kw
def Nc:=@List.map_append
def Nd:=@PySem.Heap.get?_none_of_le
def Nf:=@PySem.W.mg_none_of
def Ng:=@List.mem_range
def Nh:=@List.nodup_cons
def Ni:=@List.replicate_succ
def Nj:=@List.map_cons
def Nk:=@PySem.wpAny_mono
def Nl:=@List.length_replicate
def Nm:=@PyProof.Rows.callWith_type1
def Nn:=@Option.map_some
def Np:=@List.mem_filter
def Nq:=@PySem.F.excBase_ValueError
def Nr:=@PySem.Heap.get?_update_ne
def Nt:=@Nat.le_succ
def Nu:=@PySem.F.type_list_extend
def Nv:=@PySem.F.slot_list_extend
def Nw:=@List.length_cons
def Nx:=@List.getElem_of_mem
def Ny:=@Nat.lt_trans
def Nz:=@beq_eq_false_iff_ne
def NA:=@Ne.symm
def NB:=@List.getElem?_replicate
def NC:=@PySem.codeAny_call_builtin
def ND:=@PySem.Around.under_plainId
def NF:=@Nat.lt_succ_self
def NG:=@List.map_map
def NH:=@List.lookup_cons
def NI:=@congrArg
def NJ:=@PySem.codeAny_mono
def NK:=@Nat.le_of_lt
def NL:=@List.length_filter_le
def NM:=@PySem.wpAny_call
def NN:=@List.getElem_mem
def NO:=@List.flatten_cons
def NP:=@PySem.wpAny_passesOwn
def NQ:=@PySem.W.kia_one
def NR:=@PySem.Obj.isFreed_of_fields
def NS:=@PySem.wpAny_standAt
def NT:=@PySem.wpAny_pyIter_list
def NU:=@PySem.wpAny_loadPart_at
def NV:=@PySem.plainId_quiet
def NW:=@PySem.mem_of_lookup
def NX:=@Int.toNat_of_nonneg
def NY:=@beq_iff_eq
def NZ:=@Option.isSome_iff_exists
def N2:=@List.take_zero
def N3:=@beq_false_of_ne
def N4:=@List.filter_append
def N5:=@Int.emod_lt_of_pos
def N6:=@Bool.eq_iff_iff
def N7:=@PySem.F.entry_max_loop
def N8:=@or_false
def N9:=@PySem.wpAny_updateSeq
def Oa:=@PySem.codeAny_builtin
def Ob:=@List.getElem?_eq_none
def Oc:=@List.eq_nil_of_length_eq_zero
def Od:=@Bool.and_eq_true
def Oe:=@List.find?_cons
def Of:=@Nat.mul_le_mul_right
def Og:=@List.mem_of_mem_take
def Oh:=@PySem.wpAny_letGo
def Oi:=@PySem.PassesOwn.leaving
def Oj:=@PySem.wpAny_seqItems
def Ol:=@Int.emod_nonneg
def Om:=@Nat.ne_of_gt
def Oo:=@Nat.le_of_eq
def Oq:=@List.append_nil
def Ot:=@PySem.wpAny_execs_nil
def Ou:=@PySem.tupleKind_room_in1
def Ov:=@beq_self_eq_true
def Ow:=@PySem.Obj.data_mapFields
def Ox:=@Nat.le_of_not_lt
def Oy:=@Nat.le_add_right
def Oz:=@List.all_eq_true
def OA:=@List.getElem?_set_self
def OB:=@PySem.wpAny_newObj_type
def OC:=@Nat.sub_self
def OD:=@List.foldl_cons
def OE:=@PySem.F.attr_ValueError
def OF:=@List.length_take
def OG:=@PySem.Paired.length
def OH:=@List.getElem?_set_ne
def OI:=@PySem.wpAny_pyNext_list_item
def OJ:=@List.length_reverse
def OK:=@List.filterMap_cons
def OL:=@Array.length_toList
def OM:=@PySem.wpAny_pyNext_list_end
def ON:=@Int.natCast_nonneg
def OO:=@Bool.false_or
def OP:=@Bool.false_eq_true
def OQ:=@PySem.W.looks_findIn
def OR:=@Option.isSome_map
def OS:=@Nat.lt_succ_of_lt
def OT:=@PySem.Calls.evalArgs_plain
def OU:=@Array.getElem?_setIfInBounds_ne
def OV:=@PySem.wpAny_setField
def OW:=@PySem.wpAny_comprehension_free
def OX:=@PyProof.Rows.callWith_builtin1
def OY:=@Nat.succ.inj
def OZ:=@PySem.wpAny_field
def O0:=@Option.bind_some
def O1:=@List.cons_append
def O2:=@PySem.Heap.SameBut.update
def O3:=@PySem.wpAny_evalAll_cons
def O4:=@List.of_mem_zip
def O5:=@Int.natCast_mul
end QL
open QL
namespace L2
open PySem PySem.Spec PyProof.Rows
abbrev Key:=Sum Int Str
def pH:Key->Value->Bool
 | .inl k,v=>Value.isInt k v
 | .inr x,v=>Value.isStrOf x v
def LR(w:World):Key->Int
 | .inl k=>hashInt k
 | .inr x=>hashStr w x
theorem aN:∀ {k:Key}{v:Value},pH k v=true->(∃ i t,k=Sum.inl i/\v=Value.int i t)\/(∃ x t,k=Sum.inr x/\v=Value.str x t)
 | .inl i,v,h=>by
  obtain⟨t,e⟩:=Value.isInt_shape (k:=i) (v:=v) h;exact .inl ⟨i,t,rfl,e⟩
 | .inr x,v,h=>by
  obtain⟨t,e⟩:=Value.isStrOf_shape (x:=x) (v:=v) h;exact .inr ⟨x,t,rfl,e⟩
theorem xW(i:Int)(t:Tok):pH (.inl i) (.int i t)=true:=by simp [pH,Value.isInt]
theorem xV(x:Str)(t:Tok):pH (.inr x) (.str x t)=true:=by simp [pH,Value.isStrOf]
theorem Ib(a b:Int):decide ((Sum.inl a:Key)=Sum.inl b)=(a == b):=by
 by_cases e:a=b
 ·subst e;simp
 ·have h:¬ (Sum.inl a:Key)=Sum.inl b:=λ q=>e (Sum.inl.inj q);rw [MB h];exact(Nz.mpr e).symm
theorem HW(a b:Str):decide ((Sum.inr a:Key)=Sum.inr b)=decide (a=b):=by
 by_cases e:a=b
 ·subst e;simp
 ·have h:¬ (Sum.inr a:Key)=Sum.inr b:=λ q=>e (Sum.inr.inj q);rw [MB h,MB e]
theorem Ia(a:Int)(b:Str):decide ((Sum.inl a:Key)=Sum.inr b)=false:=MB (λ q=>nomatch q)
theorem HY(a:Str)(b:Int):decide ((Sum.inr a:Key)=Sum.inl b)=false:=MB (λ q=>nomatch q)
def bP(prog:Program)(w:World):PySem.KeyKind prog w Key where
 is:=pH
 hash:=LR w
 inj:=λ v a b ha hb=>by
  rcases aN ha with ⟨i,t,rfl,rfl⟩|⟨x,t,rfl,rfl⟩
  ·rcases aN hb with ⟨j,u,rfl,e⟩|⟨y,u,rfl,e⟩
   ·injection e with e1 _;rw [e1]
   ·exact nomatch e
  ·rcases aN hb with ⟨j,u,rfl,e⟩|⟨y,u,rfl,e⟩
   ·exact nomatch e
   ·injection e with e1 _;rw [e1]
 byValue:=λ k v h=>by
  rcases aN h with ⟨i,t,rfl,rfl⟩|⟨x,t,rfl,rfl⟩<;>rfl
 pyHash:=λ hv h=>by
  rcases aN hv with ⟨i,t,rfl,rfl⟩|⟨x,t,rfl,rfl⟩
  ·exact wpAny_pyHash_int h
  ·exact wpAny_pyHash_str h
 eqBool:=λ hu hv h=>by
  rcases aN hu with ⟨i,t,rfl,rfl⟩|⟨x,t,rfl,rfl⟩
  ·rcases aN hv with ⟨j,u,rfl,rfl⟩|⟨y,u,rfl,rfl⟩
   ·rw [Ib] at h;exact wpAny_eqBool_int h
   ·rw [Ia] at h;exact SeqAt.EqAt.int_str i t y u _ _ _ _ h
  ·rcases aN hv with ⟨j,u,rfl,rfl⟩|⟨y,u,rfl,rfl⟩
   ·rw [HY] at h;exact SeqAt.EqAt.str_int x t j u _ _ _ _ h
   ·rw [HW] at h;exact wpAny_eqBool_str h
 «strs»:=λ k x t v h=>by
  rcases aN h with ⟨i,u,rfl,e⟩|⟨y,u,rfl,e⟩
  ·exact nomatch e
  ·injection e with e1 _
   subst e1
   cases v<;>rfl
theorem qk(prog:Program)(w:World)(i:Int)(t:Tok):(bP prog w).is (.inl i) (.int i t)=true:=xW i t
theorem qi(prog:Program)(w:World)(x:Str)(t:Tok):(bP prog w).is (.inr x) (.str x t)=true:=xV x t
inductive V where
 | non|bl (b:Bool)|int (i:Int)|str (x:Str)|byt (b:Array UInt8)|flt (b:UInt64)|ref (a:Addr)|ty (n:String)
 deriving DecidableEq
def bc:V->Value->Prop
 | .non,u=>u=Value.none
 | .bl b,u=>u=Value.bool b
 | .int i,u=>∃ t,u=Value.int i t
 | .str x,u=>∃ t,u=Value.str x t
 | .byt b,u=>∃ t,u=Value.bytes b t
 | .flt b,u=>∃ t,u=Value.float b t
 | .ref a,u=>u=Value.ref a
 | .ty n,u=>u=Value.type n
abbrev br:List V->List Value->Prop:=Paired bc
theorem br.length{xs:List V}{us:List Value}(r:br xs us):xs.length=us.length:=OG r
theorem br.get:∀ {xs:List V}{us:List Value}{i:Nat}{x:V},br xs us->xs[i]? = some x->∃ u,us[i]? = some u/\bc x u
 | _,_,_,_,.nil,e=>by simp at e
 | _,_,0,_,.cons r _,e=>by simp at e;subst e;exact⟨_,rfl,r⟩
 | _,_,i+1,x,.cons _ t,e=>by
  obtain⟨u,h1,h2⟩:=br.get (i:=i) (x:=x) t (by simpa using e);exact⟨u,by simpa using h1,h2⟩
theorem br.append:∀ {xs ys:List V}{us ws:List Value},br xs us->br ys ws->br (xs++ys) (us++ws)
 | _,_,_,_,.nil,s=>s
 | _,_,_,_,.cons r t,s=>.cons r (br.append t s)
def nA:Option V->Option Value->Prop
 | some v,some u=>bc v u
 | none,none=>True
 | _,_=>False
def KV{κ:Type}:List (κ × V)->List (κ × Value)->Prop:=Paired λ (p:κ × V) (q:κ × Value)=>p.1=q.1/\bc p.2 q.2
def kV:Key->V
 | .inl i=>.int i
 | .inr x=>.str x
inductive HO where
 | lst (xs:List V)
 | tup (xs:List V)
 | dK (kvs:List (Key × V))|dT (kvs:List (List Key × V))
 | set (S:Int->Bool) (n:Nat)
 | ins (C dx:Addr) (fs:List (Str × V))
 | own (x:Addr)
 | xd (fs:List (Str × V))
 | met (f x:Addr)
 | rng (lo hi:Int)
 | frz (o:Obj) (u:HO)
 | tbl (ps:Array Value)
 | cod (q:Str)
 | ext (φ:Heap->Prop)
abbrev Hp:=Addr->Option HO
def upd(H:Hp)(a:Addr)(o:HO):Hp:=λ b=>if b=a then some o else H b
theorem ag{H:Hp}{a:Addr}{o:HO}:upd H a o a=some o:=by unfold upd;rw [if_pos rfl]
theorem ae{H:Hp}{a b:Addr}{o:HO}(h:b ≠ a):upd H a o b=H b:=by unfold upd;rw [if_neg h]
theorem Ck{H:Hp}{a:Addr}{o u:HO}:upd (upd H a o) a u=upd H a u:=by
 funext b;unfold upd;split<;>rfl
theorem JS{H:Hp}{a b:Addr}{o u:HO}(h:H a=some o)(h':H b=some u)(d:o ≠ u):a ≠ b:=by
 intro e;subst e;rw [h] at h';exact d (MU h')
theorem ah{H:Hp}{a b:Addr}{o:HO}(h:H a=some o)(h':H b=none):a ≠ b:=by
 intro e;subst e;rw [h] at h';cases h'
section
variable (P:Program)(w:World)
def aV(H:Hp)(h:Heap)(a:Addr):HO->Prop
 | .lst xs=>xs.length<=sizeLine/\∃ (its:List Value) (n:Nat),br xs its/\h.get? a=some { cls:=.type "list",data:=.seq its.toArray n }
 | .tup xs=>xs.length<=sizeLine/\∃ its:List Value,br xs its/\IsTup h a its.toArray
 | .dK kvs=>kvs.length<=sizeLine/\(a == sysModules)=false/\∃ vs,KV kvs vs/\h.DictOf (bP P w) a vs
 | .dT kvs=>kvs.length<=sizeLine/\(a == sysModules)=false/\∃ xs:List (List Key × Addr × Value),
   Paired (λ (p:List Key × V) (q:List Key × Addr × Value)=>p.1=q.1/\H q.2.1=some (.tup (p.1.map kV))/\bc p.2 q.2.2) kvs xs /\
   ∃ o es ep,h.get? a=some o/\o.ExactDict/\o.data=.dict es ep/\es.toList=xs.map (entryOfKey (tupleKind (bP P w)))/\(xs.map (·.1)).Nodup
 | .set S n=>h.SetOf (intKind P w) a S n
 | .ins C dx fs=>H dx=some (.own a)/\fs.length<=1000/\dx ≠ a/\h.get? a=some (W.instObj C dx) /\
   ∃ mA,h.Ns1 dx mA/\(∀ f,nA (fs.lookup f) (mA f))/\PySem.Within mA (fs.map (·.1))
 | .own _=>∃ o,h.get? a=some o
 | .xd fs=>∃ mA,h.Ns1 a mA/\∀ f,nA (fs.lookup f) (mA f)
 | .rng lo hi=>∃ t u v,h.get? a=some { cls:=.type "range",data:=.fields #[.int lo t,.int hi u,.int 1 v] }
 | .frz o u=>h.get? a=some o/\aV H h a u
 | .tbl ps=>∃ (q:Str) (t:Tok) (qs:Array Value),ps=#[.str q t]/\h.get? a=some { cls:=.none,data:=.fields qs }/\TriplesOk qs.toList/\∀ (pos:Pos) (cv:Value),codeAmong pos qs.toList=some cv->∃ c:Addr,cv=.ref c/\H c=some (.cod q)
 | .cod q=>∃ (o:Obj) (vs:Array Value) (t:Tok),h.get? a=some o/\o.data=.fields vs/\vs[1]? = some (.str q t)
 | .met f x=>h.get? a=some (W.methodObj (.ref f) (.ref x))
 | .ext φ=>φ h/\(∃ o,h.get? a=some o)/\∀ h1 h2:Heap,φ h1->(∀ o,h1.get? a=some o->h2.get? a=some o)->φ h2
def HOk(H:Hp)(h:Heap):Prop:=∀ a o,H a=some o->aV P w H h a o
end
section
variable {P:Program}{w:World}{H H':Hp}{h h':Heap}{a:Addr}{o:HO}
theorem aV.lt(x:aV P w H h a o):a < h.objs.size:=by
 cases o with
 | lst xs=>obtain⟨_,_,_,_,e⟩:=x;exact Mc e
 | tup xs=>obtain⟨_,_,_,p⟩:=x;exact p.lt
 | dK kvs=>obtain⟨_,_,_,_,o,_,_,e,_⟩:=x;exact Mc e
 | dT kvs=>obtain⟨_,_,_,_,o,_,_,e,_⟩:=x;exact Mc e
 | set S n=>obtain⟨o,_,_,_,e,_⟩:=x;exact Mc e
 | ins C dx fs=>obtain⟨_,_,_,e,_⟩:=x;exact Mc e
 | own y=>obtain⟨_,e⟩:=x;exact Mc e
 | xd fs=>obtain⟨_,⟨_,_,_,e,_⟩,_⟩:=x;exact Mc e
 | rng lo hi=>obtain⟨_,_,_,e⟩:=x;exact Mc e
 | frz ob u=>obtain⟨e,_⟩:=x;exact Mc e
 | tbl ps=>obtain⟨_,_,_,_,e,_⟩:=x;exact Mc e
 | cod q=>obtain⟨_,_,_,e,_⟩:=x;exact Mc e
 | met f y=>exact Mc (show h.get? a=some _ from x)
 | ext φ=>obtain⟨_,⟨_,e⟩,_⟩:=x;exact Mc e
theorem Paired.mapP{α β:Type}{F G:α->β->Prop}:∀ {l₁:List α}{l₂:List β},Paired F l₁ l₂->(∀ a b,F a b->G a b)->Paired G l₁ l₂
 | _,_,.nil,_=>.nil
 | _,_,.cons r t,f=>.cons (f _ _ r) (Paired.mapP t f)
theorem aV.stay(x:aV P w H h a o)(k:∀ b u,(b=a\/H b=some (.own a))->h.get? b=some u->h'.get? b=some u)
  (ho:∀ b,H b=some (.own a)->H' b=some (.own a)) (hq:∀ b q,H b=some (.cod q)->H' b=some (.cod q)) (ht:∀ b xs,H b=some (.tup xs)->H' b=some (.tup xs)):aV P w H' h' a o:=by
 induction o with
 | lst xs=>obtain⟨z,its,n,r,e⟩:=x;exact⟨z,its,n,r,k _ _ (.inl rfl) e⟩
 | tup xs=>obtain⟨z,its,r,ob,e,c⟩:=x;exact⟨z,its,r,ob,k _ _ (.inl rfl) e,c⟩
 | dK kvs=>obtain⟨z,y,vs,r,ob,es,ep,e,c⟩:=x;exact⟨z,y,vs,r,ob,es,ep,k _ _ (.inl rfl) e,c⟩
 | dT kvs=>
  obtain⟨z,y,xs,r,ob,es,ep,e,c⟩:=x;exact⟨z,y,xs,Paired.mapP r λ p q z=>⟨z.1,ht _ _ z.2.1,z.2.2⟩,ob,es,ep,k _ _ (.inl rfl) e,c⟩
 | set S n=>obtain⟨ob,es,ep,t,e,c⟩:=x;exact⟨ob,es,ep,t,k _ _ (.inl rfl) e,c⟩
 | ins C dx fs=>
  obtain⟨d,z,ne,e,mA,⟨od,es,ep,e2,c⟩,r⟩:=x;exact⟨ho _ d,z,ne,k _ _ (.inl rfl) e,mA,⟨od,es,ep,k _ _ (.inr d) e2,c⟩,r⟩
 | own y=>obtain⟨ob,e⟩:=x;exact⟨ob,k _ _ (.inl rfl) e⟩
 | xd fs=>obtain⟨mA,⟨od,es,ep,e,c⟩,r⟩:=x;exact⟨mA,⟨od,es,ep,k _ _ (.inl rfl) e,c⟩,r⟩
 | rng lo hi=>obtain⟨t,u,v,e⟩:=x;exact⟨t,u,v,k _ _ (.inl rfl) e⟩
 | frz ob u ih=>obtain⟨e,q⟩:=x;exact⟨k _ _ (.inl rfl) e,ih q⟩
 | tbl ps=>
  obtain⟨q,t,qs,e0,e,tr,hc⟩:=x;refine⟨q,t,qs,e0,k _ _ (.inl rfl) e,tr,λ pos cv hcv=>?_⟩;obtain⟨c,r1,r2⟩:=hc pos cv hcv;exact⟨c,r1,hq _ _ r2⟩
 | cod q=>obtain⟨ob,vs,t,e,c⟩:=x;exact⟨ob,vs,t,k _ _ (.inl rfl) e,c⟩
 | met f y=>
  have e:h.get? a=some (W.methodObj (.ref f) (.ref y)):=x
  show h'.get? a=some (W.methodObj (.ref f) (.ref y))
  exact k a _ (.inl rfl) e
 | ext φ=>obtain⟨p,⟨o,e⟩,st⟩:=x;exact⟨st _ _ p λ o q=>k _ _ (.inl rfl) q,⟨o,k _ _ (.inl rfl) e⟩,st⟩
theorem HOk.lt(x:HOk P w H h)(e:H a=some o):a < h.objs.size:=(x a o e).lt
theorem HOk.fresh(x:HOk P w H h)(e:h.objs.size<=a):H a=none:=by
 cases q:H a with
 | none=>rfl
 | some u=>exact absurd (Mm (x.lt q) e) (M5 _)
theorem HOk.kept(x:HOk P w H h)(k:∀ b u,h.get? b=some u->h'.get? b=some u):HOk P w H h':=λ a o e=>
 (x a o e).stay (λ b u _ q=>k b u q) (λ _ q=>q) (λ _ _ q=>q) λ _ _ q=>q
theorem HOk.laid(x:HOk P w H h)(k:∀ b u,h.get? b=some u->h'.get? b=some u)(hp:h.objs.size<=a)(new:aV P w (upd H a o) h' a o):HOk P w (upd H a o) h':=λ b u e=>by
 have hn:=x.fresh hp
 by_cases hb:b=a
 ·subst hb;rw [ag] at e;cases e;exact new
 ·rw [ae hb] at e;exact(x b u e).stay (λ c v _ q=>k c v q) (λ c q=>by rw [ae (ah q hn)];exact q) (λ c y q=>by rw [ae (ah q hn)];exact q) λ c xs q=>by rw [ae (ah q hn)];exact q
end
def Rd(H:Hp)(a:Addr)(u:HO):Prop:=H a=some u\/∃ o,H a=some (.frz o u)
theorem Rd.ok{P:Program}{w:World}{H:Hp}{h:Heap}{a:Addr}{u:HO}(r:Rd H a u)(x:HOk P w H h):aV P w H h a u:=by
 rcases r with r|⟨o,r⟩
 ·exact x a u r
 ·obtain⟨_,q⟩:=x a _ r;exact q
def Mut:Option HO->Prop
 | some (.lst _)=>True
 | some (.dK _)=>True
 | some (.dT _)=>True
 | some (.set _ _)=>True
 | some (.ins _ _ _)=>True
 | some (.ext _)=>True
 | _=>False
section
variable {P:Program}{w:World}{H:Hp}{h h':Heap}{x e:Addr}{o':HO}
theorem HOk.write(ok:HOk P w H h)(mu:Mut (H x))(he:e=x\/H e=some (.own x))(k:∀ b u,b ≠ e->h.get? b=some u->h'.get? b=some u)(heo:∃ u,h'.get? e=some u)
  (new:aV P w (upd H x o') h' x o'):HOk P w (upd H x o') h':=λ b u q=>by
 have nown:∀ c y,H c=some (.own y)->c ≠ x:=λ c y r z=>by subst z;rw [r] at mu;exact mu
 have ntup:∀ c xs,H c=some (.tup xs)->c ≠ x:=λ c xs r z=>by subst z;rw [r] at mu;exact mu
 have ncod:∀ c y,H c=some (.cod y)->c ≠ x:=λ c y r z=>by subst z;rw [r] at mu;exact mu
 by_cases hb:b=x
 ·subst hb;rw [ag] at q;cases q;exact new
 ·rw [ae hb] at q
  by_cases hbe:b=e
  ·have q':H b=some (.own x):=by
    rcases he with z|z
    ·exact absurd (hbe.trans z) hb
    ·rw [hbe];exact z
   rw [q] at q';cases q';obtain⟨v,hv⟩:=heo;exact⟨v,by rw [hbe];exact hv⟩
  ·refine(ok b u q).stay (λ c v hc r=>k c v ?_ r) (λ c r=>by rw [ae (nown c b r)];exact r) (λ c y r=>by rw [ae (ncod c y r)];exact r) λ c xs r=>by rw [ae (ntup c xs r)];exact r
   rcases hc with rfl|hc
   ·exact hbe
   ·rintro rfl
    rcases he with z|z
    ·exact nown c b hc z
    ·rw [hc] at z;cases z;exact hb rfl
end
structure Un(fs ex:List Addr)(H H':Hp)(h h':Heap):Prop where
 keep:∀ b o,h.get? b=some o->H b=none->b ∉ fs->b ∉ ex->h'.get? b=some o
 slot:∀ b o,h.get? b=some o->H b=none->b∈fs->b ∉ ex->∃ sl,h'.get? b=some { o with slots:=sl }
 free:∀ b o,h.get? b=some o->H b=none->b ∉ ex->H' b=none
 there:∀ b o,h.get? b=some o->b ∉ ex->∃ o',h'.get? b=some o'
 tups:∀ b xs,H b=some (.tup xs)->H' b=some (.tup xs)
 frzs:∀ b o u,H b=some (.frz o u)->H' b=some (.frz o u)
 tbls:∀ b ps,H b=some (.tbl ps)->∃ more,H' b=some (.tbl (ps++more))
section
variable {fs fs' ex ex':List Addr}{H H1 H2:Hp}{h h1 h2 h':Heap}{a x e:Addr}{o:HO}
theorem Un.any(u:Un fs ex H H1 h h1){b:Addr}{ob:Obj}(q:h.get? b=some ob)(n:H b=none)(hx:b ∉ ex):∃ sl,h1.get? b=some { ob with slots:=sl }:=by
 by_cases hb:b∈fs
 ·exact u.slot b ob q n hb hx
 ·exact⟨ob.slots,u.keep b ob q n hb hx⟩
theorem Un.trans(a:Un fs ex H H1 h h1)(b:Un fs ex H1 H2 h1 h2):Un fs ex H H2 h h2 where
 keep:=λ c ob q n hc hx=>b.keep c ob (a.keep c ob q n hc hx) (a.free c ob q n hx) hc hx
 slot:=λ c ob q n hc hx=>by
  obtain⟨sl,e1⟩:=a.slot c ob q n hc hx;obtain⟨sl',e2⟩:=b.slot c _ e1 (a.free c ob q n hx) hc hx;exact⟨sl',e2⟩
 free:=λ c ob q n hx=>by
  obtain⟨o',e1⟩:=a.there c ob q hx;exact b.free c o' e1 (a.free c ob q n hx) hx
 there:=λ c ob q hx=>by
  obtain⟨o',e1⟩:=a.there c ob q hx;exact b.there c o' e1 hx
 tups:=λ c xs q=>b.tups c xs (a.tups c xs q)
 frzs:=λ c ob xs q=>b.frzs c ob xs (a.frzs c ob xs q)
 tbls:=λ c ps q=>by
  obtain⟨m1,e1⟩:=a.tbls c ps q;obtain⟨m2,e2⟩:=b.tbls c _ e1;exact⟨m1++m2,by rw [e2,Array.append_assoc]⟩
theorem Un.kept(k:∀ b u,h.get? b=some u->h'.get? b=some u):Un fs ex H H h h':=
 ⟨λ b ob q _ _ _=>k b ob q,λ b ob q _ _ _=>⟨ob.slots,k b ob q⟩,λ _ _ _ n _=>n,λ b ob q _=>⟨ob,k b ob q⟩,λ _ _ q=>q,λ _ _ _ q=>q,λ _ ps q=>⟨#[],by rw [q];simp⟩⟩
theorem Un.refl:Un fs ex H H h h:=Un.kept λ _ _ q=>q
theorem Un.laid(k:∀ b u,h.get? b=some u->h'.get? b=some u)(hp:h.objs.size<=a)(hn:H a=none):Un fs ex H (upd H a o) h h' where
 keep:=λ b u q _ _ _=>k b u q
 slot:=λ b u q _ _ _=>⟨u.slots,k b u q⟩
 free:=λ b u q n _=>by rw [ae (Ms (Mm (Mc q) hp))];exact n
 there:=λ b u q _=>⟨u,k b u q⟩
 tups:=λ b xs q=>by rw [ae (ah q hn)];exact q
 frzs:=λ b u xs q=>by rw [ae (ah q hn)];exact q
 tbls:=λ b ps q=>⟨#[],by rw [ae (ah q hn),q];simp⟩
theorem Un.write(mu:Mut (H x))(he:e=x\/H e=some (.own x))(k:∀ b u,b ≠ e->h.get? b=some u->h'.get? b=some u)(heo:∃ u,h'.get? e=some u):Un fs ex H (upd H x o) h h':=by
 have hx:∀ b,H b=none->b ≠ x:=λ b n z=>by subst z;rw [n] at mu;exact mu
 have hb:∀ b,H b=none->b ≠ e:=λ b n z=>by
  subst z
  rcases he with r|r
  ·exact hx b n r
  ·rw [n] at r;cases r
 have hm:∀ b u,H b=some u->¬ Mut (some u)->b ≠ x:=λ b u q nm z=>by subst z;rw [q] at mu;exact nm mu
 refine⟨λ b u q n _ _=>k b u (hb b n) q,λ b u q n _ _=>⟨u.slots,k b u (hb b n) q⟩,λ b u q n _=>by rw [ae (hx b n)];exact n,λ b u q _=>?_,
  λ b xs q=>by rw [ae (hm b _ q λ z=>z)];exact q,λ b u xs q=>by rw [ae (hm b _ q λ z=>z)];exact q,λ b ps q=>⟨#[],by rw [ae (hm b _ q λ z=>z),q];simp⟩⟩
 by_cases hbe:b=e
 ·subst hbe;exact heo
 ·exact⟨u,k b u hbe q⟩
end
def trk(h:Heap)(H:Hp):List Addr:=(List.range h.objs.size).filter λ a=>(H a).isSome
def yH(h:Heap)(H:Hp):Heap:=W.hideAll h (trk h H)
theorem x5(h:Heap)(H:Hp):(yH h H).objs.size=h.objs.size:=W.hideAll_size _ _
theorem Av{h:Heap}{H:Hp}{b:Addr}{o:Obj}(e:h.get? b=some o)(n:H b=none):(yH h H).get? b=some o:=
 W.hideAll_get _ e λ hm=>by
  have q:(H b).isSome=true:=(Np.mp hm).2;rw [n] at q;simp at q
theorem CY{h:Heap}{H:Hp}{b:Addr}{o:Obj}(e:(yH h H).get? b=some o):h.get? b=some o/\H b=none:=by
 have e':h.get? b=some o:=W.of_hideAll (trk h H) e;refine⟨e',?_⟩
 cases q:H b with
 | none=>rfl
 | some x=>
  have hm:b∈trk h H:=Np.mpr ⟨Ng.mpr (Mc e'),by simp [q]⟩;have z:(yH h H).get? b=none:=W.hideAll_none (trk h H) hm;rw [z] at e;cases e
def EI(g h:Heap)(L:Addr):List (Addr × Obj):=(List.range h.objs.size).filterMap λ a=>if a=L\/(g.get? a).isSome=true then none else (h.get? a).map λ o=>(a,o)
def cy(g h:Heap)(L d:Addr):List (Addr × Obj):=(EI g h L).filter λ p=>decide (p.1 ≠ d)
structure Mod(K:W.Frag)(mg:Str->Option Value)(base:Heap):Prop where
 kin:K.In base
 glob:base.Ns mainGlobals mg
 blt:∃ mb,base.Ns builtinsNs mb/\∀ x:Str,x ≠ "__name__" → mb x=bootBuiltins x
 nolimit:base.NoLimit
structure Cx where
 prog:Program
 w:World
 K:W.Frag
 mg:Str->Option Value
 base:Heap
 A:Around
 N:List Str
 s₀:Shared
 H₀:Hp
 env:Env
 outer:List Env
 stack:List Env
 ex:List Addr
 fn:Str->Bool
 calm:Bool
 pn:List (Addr × Obj)
 xe:Value->Shared->Prop
def frs(l:List Env):List Addr:=l.filterMap (·.frame)
abbrev Cx.fs(X:Cx):List Addr:=frs X.outer
def Vis(sc:Scope)(x:Str):Prop:=sc.names.lookup x=some .local\/sc.names.lookup x=some .cell\/sc.names.lookup x=some .free
def Loc(sc:Scope)(x:Str):Prop:=sc.names.lookup x=some .local\/sc.names.lookup x=some .cell
def LY(env:Env)(h:Heap)(m:Str->Option Value)(x:Str)(u:Value):Prop:=
 (env.kindOf x=some .local/\m x=some u)\/((env.kindOf x=some .cell\/env.kindOf x=some .free)/\∃ c,env.cells.lookup x=some c/\h.IsCell c (some u))
structure Cx.Ok(X:Cx):Prop where
 mod:Mod X.K X.mg X.base
 kind:X.env.scope.kind=.function
 glob:X.env.globals=mainGlobals
 blt:X.env.builtins=builtinsNs
 above:X.s₀.heap.objs.size<=X.env.locals
 inj:∀ x y c,X.env.cells.lookup x=some c->X.env.cells.lookup y=some c->x=y
 has:∀ x,(X.env.kindOf x=some .cell\/X.env.kindOf x=some .free)->∃ c,X.env.cells.lookup x=some c
 cab:∀ x c,X.fn x=true->X.env.cells.lookup x=some c->X.s₀.heap.objs.size<=c
 hd:X.calm=true->X.A.handled=none
 frames:X.A.frames=some X.stack
 stk:X.stack=X.outer\/(X.stack=X.env::X.outer/\X.env.frame=some X.env.locals)
 exf:∀ b∈X.ex,b ≠ X.env.locals/\∀ x c,X.env.cells.lookup x=some c->c ≠ b
 bs:∀ b o,X.base.get? b=some o->X.s₀.heap.get? b=some o/\X.H₀ b=none
 bsz:X.base.objs.size<=X.s₀.heap.objs.size
 noex:∀ b o,X.base.get? b=some o->b ∉ X.ex
 exfs:∀ b∈X.ex,b ∉ X.fs
 funs:X.s₀.heap.FunFrames X.base X.outer
 frf:∀ b∈X.fs,X.H₀ b=none
structure Inv(X:Cx)(pins:List (Addr × Obj))(σ:List (Option V))(H:Hp)(s:Shared):Prop where
 ok:X.Ok
 os:s.os=X.s₀.os
 bare:AllBare s.gens
 base:Un X.fs X.ex X.H₀ H X.s₀.heap s.heap
 loc:∃ m,s.heap.Ns X.env.locals m/\∀ (i:Nat) (x:Str) (v:V),X.N[i]? = some x->σ[i]? = some (some v)->Vis X.env.scope x->∃ u,bc v u/\LY X.env s.heap m x u
 cell:∀ x c,X.env.cells.lookup x=some c->∃ v,s.heap.IsCell c v
 free:H X.env.locals=none
 freeC:∀ x c,X.env.cells.lookup x=some c->H c=none
 pin:∀ p∈X.pn++pins,s.heap.get? p.1=some p.2/\H p.1=none/\p.1 ≠ X.env.locals/\p.1 ∉ X.fs/\∀ v,p.2.data ≠ .cell v
 hok:HOk X.prog X.w H s.heap
 len:σ.length=X.N.length
section
variable {X:Cx}{pins:List (Addr × Obj)}{σ:List (Option V)}{H H':Hp}{s:Shared}{h':Heap}
theorem Cx.Ok.nofr(ok:X.Ok){b:Addr}{o:Obj}(e:X.base.get? b=some o):b ∉ X.fs:=λ hb=>by
 have:=(ok.funs.mem hb).1;rw [e] at this;cases this
theorem Inv.bs(I:Inv X pins σ H s):∀ b o,X.base.get? b=some o->s.heap.get? b=some o/\H b=none:=λ b o e=>
 ⟨I.base.keep b o (I.ok.bs b o e).1 (I.ok.bs b o e).2 (I.ok.nofr e) (I.ok.noex b o e),I.base.free b o (I.ok.bs b o e).1 (I.ok.bs b o e).2 (I.ok.noex b o e)⟩
theorem Inv.bk(I:Inv X pins σ H s):∀ b o,X.base.get? b=some o->s.heap.get? b=some o:=λ b o e=>(I.bs b o e).1
theorem Inv.mod(I:Inv X pins σ H s):Mod X.K X.mg X.base:=I.ok.mod
theorem Inv.kIn(I:Inv X pins σ H s):X.K.In s.heap:=I.ok.mod.kin.keeps I.bk
theorem Inv.lt(I:Inv X pins σ H s):X.env.locals < s.heap.objs.size:=let ⟨_,hn,_⟩:=I.loc;hn.lt
theorem Inv.sz(I:Inv X pins σ H s):X.s₀.heap.objs.size<=s.heap.objs.size:=MQ I.ok.above (NK I.lt)
theorem Inv.nofs(I:Inv X pins σ H s){a:Addr}(h:s.heap.objs.size<=a):a ∉ X.fs:=λ hb=>by
 obtain⟨_,o,ho,_⟩:=I.ok.funs.mem hb;exact absurd (Mm (Mc ho) (MQ I.sz h)) (M5 _)
theorem Inv.cne(I:Inv X pins σ H s):∀ x c,X.env.cells.lookup x=some c->c ≠ X.env.locals:=λ x c e z=>by
 obtain⟨v,o,ho,hd⟩:=I.cell x c e;obtain⟨m,⟨o',es,ep,ho',hd',_⟩,_⟩:=I.loc;rw [z,ho'] at ho;cases ho;rw [hd'] at hd;cases hd
theorem Inv.funs(I:Inv X pins σ H s):s.heap.FunFrames X.base X.outer:=by
 have all:∀ (l:List Env),(∀ b∈frs l,b∈X.fs)->X.s₀.heap.FunFrames X.base l->s.heap.FunFrames X.base l:=by
  intro l
  induction l with
  | nil=>intro _ _;trivial
  | cons env r ih=>
   intro hs hl;obtain⟨hk,⟨L,o,hf,hn,ho,hd⟩,hr⟩:=hl;have hL:L∈X.fs:=hs L (by unfold frs;rw [List.filterMap_cons,hf];exact mem_cons_self);obtain⟨sl,e⟩:=I.base.slot L o ho (I.ok.frf L hL) hL λ z=>I.ok.exfs L z hL;exact⟨hk,⟨L,_,hf,hn,e,hd⟩,ih (λ b hb=>hs b (by unfold frs;rw [List.filterMap_cons,hf];exact mem_cons_of_mem _ hb)) hr⟩
 exact all X.outer (λ _ hb=>hb) I.ok.funs
theorem Inv.stack(I:Inv X pins σ H s):s.heap.FunFrames X.base X.stack:=by
 rcases I.ok.stk with e|⟨e,hf⟩
 ·rw [e];exact I.funs
 ·rw [e];obtain⟨m,hn,_⟩:=I.loc;refine .cons (by rw [I.ok.kind];decide) hf hn ?_ I.funs;exact Nd (MQ I.ok.bsz I.ok.above)
theorem Inv.stkSub(I:Inv X pins σ H s):∀ b∈frs X.stack,b∈X.env.locals::X.fs:=λ b hb=>by
 rcases I.ok.stk with e|⟨e,hf⟩
 ·rw [e] at hb;exact Mp _ hb
 ·rw [e] at hb;unfold frs at hb;rw [List.filterMap_cons,hf] at hb;exact hb
theorem Inv.stkFree(I:Inv X pins σ H s):∀ b∈frs X.stack,H b=none:=λ b hb=>by
 rcases ML.mp (I.stkSub b hb) with e|hb
 ·rw [e];exact I.free
 ·obtain⟨_,o,ho,_⟩:=I.ok.funs.mem hb;exact I.base.free b o ho (I.ok.frf b hb) λ z=>I.ok.exfs b z hb
theorem Inv.step{g':Array GenState}{t':Nat}{d':Drawn}{ch:List Addr}(I:Inv X pins σ H s)
  (hch:∀ b∈ch,(b∈X.ex\/X.s₀.heap.objs.size<=b)/\b ≠ X.env.locals/\(∀ x c,X.env.cells.lookup x=some c->c ≠ b)/\∀ p∈X.pn++pins,p.1 ≠ b)
  (keep:∀ b o,b ≠ X.env.locals->b ∉ X.fs->b ∉ ch->s.heap.get? b=some o->H b=none->h'.get? b=some o)
  (slot:∀ b o,b ≠ X.env.locals->b∈X.fs->b ∉ ch->s.heap.get? b=some o->H b=none->∃ sl,h'.get? b=some { o with slots:=sl }) (free:∀ b o,b ∉ ch->s.heap.get? b=some o->H b=none->H' b=none)
  (there:∀ b o,b ∉ ch->s.heap.get? b=some o->∃ o',h'.get? b=some o')
  (tups:∀ b xs,H b=some (.tup xs)->H' b=some (.tup xs)) (frzs:∀ b o u,H b=some (.frz o u)->H' b=some (.frz o u)) (tbls:∀ b ps,H b=some (.tbl ps)->∃ more,H' b=some (.tbl (ps++more)))
  (ns:∀ m,s.heap.Ns X.env.locals m->h'.Ns X.env.locals m) (hok:HOk X.prog X.w H' h') (hg:AllBare g') :
  Inv X pins σ H' { s with heap:=h',gens:=g',drawn:=d',toks:=t' }:=by
 have neL:∀ b o,X.s₀.heap.get? b=some o->b ≠ X.env.locals:=λ b o e=>Ms (Mm (Mc e) I.ok.above)
 have neC:∀ b o,X.s₀.heap.get? b=some o->b ∉ X.ex->b ∉ ch:=λ b o e hx hb=>by
  rcases (hch b hb).1 with z|z
  ·exact hx z
  ·exact absurd (Mm (Mc e) z) (M5 _)
 have cellK:∀ x c,X.env.cells.lookup x=some c->∀ v,s.heap.IsCell c v->h'.IsCell c v:=λ x c e v ⟨o,ho,hd⟩=>by
  have nch:c ∉ ch:=λ z=>(hch c z).2.2.1 x c e rfl
  by_cases hc:c∈X.fs
  ·obtain⟨sl,q⟩:=slot c o (I.cne x c e) hc nch ho (I.freeC x c e);exact⟨_,q,hd⟩
  ·exact⟨o,keep c o (I.cne x c e) hc nch ho (I.freeC x c e),hd⟩
 refine⟨I.ok,I.os,hg,⟨λ b o e n hb hx=>?_,λ b o e n hb hx=>?_,λ b o e n hx=>?_,λ b o e hx=>?_,λ b xs e=>tups b xs (I.base.tups b xs e),λ b o xs e=>frzs b o xs (I.base.frzs b o xs e),λ b ps e=>?_⟩,?_,λ x c e=>?_,?_,λ x c e=>?_,λ p hp=>?_,hok,I.len⟩
 ·exact keep b o (neL b o e) hb (neC b o e hx) (I.base.keep b o e n hb hx) (I.base.free b o e n hx)
 ·obtain⟨sl,e1⟩:=I.base.slot b o e n hb hx;obtain⟨sl',e2⟩:=slot b _ (neL b o e) hb (neC b o e hx) e1 (I.base.free b o e n hx);exact⟨sl',e2⟩
 ·obtain⟨o',e1⟩:=I.base.there b o e hx;exact free b o' (neC b o e hx) e1 (I.base.free b o e n hx)
 ·obtain⟨o',e1⟩:=I.base.there b o e hx;exact there b o' (neC b o e hx) e1
 ·obtain⟨m1,e1⟩:=I.base.tbls b ps e;obtain⟨m2,e2⟩:=tbls b _ e1;exact⟨m1++m2,by rw [e2,Array.append_assoc]⟩
 ·obtain⟨m,hn,hl⟩:=I.loc;refine⟨m,ns m hn,λ i x v e1 e2 e3=>?_⟩;obtain⟨u,r,l⟩:=hl i x v e1 e2 e3;refine⟨u,r,?_⟩
  rcases l with l|⟨k,c,e,z⟩
  ·exact .inl l
  ·exact .inr ⟨k,c,e,cellK x c e _ z⟩
 ·obtain⟨v,z⟩:=I.cell x c e;exact⟨v,cellK x c e v z⟩
 ·obtain⟨m,⟨o,_,_,ho,_⟩,_⟩:=I.loc;exact free _ o (λ z=>(hch _ z).2.1 rfl) ho I.free
 ·obtain⟨v,o,ho,hd⟩:=I.cell x c e;exact free c o (λ z=>(hch c z).2.2.1 x c e rfl) ho (I.freeC x c e)
 ·obtain⟨e,n,ne,nf,d⟩:=I.pin p hp;have nch:p.1 ∉ ch:=λ z=>(hch p.1 z).2.2.2 p hp rfl;exact⟨keep p.1 p.2 ne nf nch e n,free p.1 p.2 nch e n,ne,nf,d⟩
theorem Inv.un{t':Nat}(I:Inv X pins σ H s)(u:Un X.fs [] H H' s.heap h')(hok:HOk X.prog X.w H' h'):Inv X pins σ H' { s with heap:=h',toks:=t' }:=by
 obtain⟨m,⟨o,es,ep,ho,r⟩,_⟩:=id I.loc;obtain⟨sl,hL⟩:=u.any ho I.free (by simp)
 exact I.step (g':=s.gens) (d':=s.drawn) (ch:=[]) (λ _ z=>nomatch z) (λ b o _ hb _ e n=>u.keep b o e n hb (by simp)) (λ b o _ hb _ e n=>u.slot b o e n hb (by simp)) (λ b o _ e n=>u.free b o e n (by simp)) (λ b o _ e=>u.there b o e (by simp)) u.tups u.frzs u.tbls (λ m' hm=>by
  obtain⟨o',es',ep',ho',r'⟩:=hm;rw [ho] at ho';cases ho';exact⟨_,es',ep',hL,r'⟩) hok I.bare
theorem Inv.call{g':Array GenState}{t':Nat}{d':Drawn}{ch:List Addr}(I:Inv X pins σ H s)(u:Un (frs X.stack) ch H H' s.heap h')(hok:HOk X.prog X.w H' h')(hg:AllBare g')
  (hch:∀ b∈ch,(b∈X.ex\/X.s₀.heap.objs.size<=b)/\b ≠ X.env.locals/\(∀ x c,X.env.cells.lookup x=some c->c ≠ b)/\∀ p∈X.pn++pins,p.1 ≠ b) :
  Inv X pins σ H' { s with heap:=h',gens:=g',drawn:=d',toks:=t' }:=by
 obtain⟨m,⟨o,es,ep,ho,r⟩,_⟩:=id I.loc;obtain⟨sl,hL⟩:=u.any ho I.free λ z=>(hch _ z).2.1 rfl
 exact I.step (ch:=ch) hch (λ b o hL hb hc e n=>u.keep b o e n (λ z=>(ML.mp (I.stkSub b z)).elim hL hb) hc) (λ b o _ _ hc e n=>u.any e n hc) (λ b o hc e n=>u.free b o e n hc) (λ b o hc e=>u.there b o e hc) u.tups u.frzs u.tbls (λ m' hm=>by
  obtain⟨o',es',ep',ho',r'⟩:=hm;rw [ho] at ho';cases ho';exact⟨_,es',ep',hL,r'⟩) hok hg
theorem Inv.turned{t':Nat}{it:Addr}(I:Inv X pins σ H s)(k:∀ b o,b ≠ it->s.heap.get? b=some o->h'.get? b=some o)(hn:H it=none)(hL:it ≠ X.env.locals)
  (h1:it∈X.ex\/X.s₀.heap.objs.size<=it) (h2:∀ x c,X.env.cells.lookup x=some c->c ≠ it) (h3:∀ p∈X.pn++pins,p.1 ≠ it):Inv X pins σ H { s with heap:=h',toks:=t' }:=by
 have nit:∀ b u,H b=some u->b ≠ it:=λ b u e z=>by rw [z,hn] at e;cases e
 refine I.step (g':=s.gens) (d':=s.drawn) (ch:=[it]) (λ b hb=>?_) (λ b o _ _ hc e _=>k b o (λ z=>hc (by simp [z])) e) (λ b o _ _ hc e _=>⟨o.slots,k b o (λ z=>hc (by simp [z])) e⟩) (λ _ _ _ _ n=>n)
  (λ b o hc e=>⟨o,k b o (λ z=>hc (by simp [z])) e⟩) (λ _ _ e=>e) (λ _ _ _ e=>e) (λ b ps e=>⟨#[],by rw [e];simp⟩) (λ m hm=>?_) (λ b u e=>?_) I.bare
 ·have e:b=it:=by simpa using hb
  subst e;exact⟨h1,hL,h2,h3⟩
 ·obtain⟨o,es,ep,ho,r⟩:=hm;exact⟨o,es,ep,k _ o (NA hL) ho,r⟩
 ·refine(I.hok b u e).stay (λ c v hc q=>k c v ?_ q) (λ _ q=>q) (λ _ _ q=>q) λ _ _ q=>q
  rcases hc with z|z
  ·rw [z];exact nit b u e
  ·exact nit c _ z
theorem Inv.tok(I:Inv X pins σ H s)(t:Nat):Inv X pins σ H { s with toks:=t }:=I.un (h':=s.heap) (t':=t) Un.refl I.hok
theorem Inv.kept{t':Nat}(I:Inv X pins σ H s)(k:∀ b u,s.heap.get? b=some u->h'.get? b=some u):Inv X pins σ H { s with heap:=h',toks:=t' }:=I.un (Un.kept k) (I.hok.kept k)
theorem Inv.laid{a:Addr}{o:HO}{t':Nat}(I:Inv X pins σ H s)(k:∀ b u,s.heap.get? b=some u->h'.get? b=some u)(hp:s.heap.objs.size<=a)(new:aV X.prog X.w (upd H a o) h' a o) :
  Inv X pins σ (upd H a o) { s with heap:=h',toks:=t' }:=I.un (Un.laid k hp (I.hok.fresh hp)) (I.hok.laid k hp new)
theorem Inv.write{x e:Addr}{o:HO}{t':Nat}(I:Inv X pins σ H s)(mu:Mut (H x))(he:e=x\/H e=some (.own x))(k:∀ b u,b ≠ e->s.heap.get? b=some u->h'.get? b=some u)(heo:∃ u,h'.get? e=some u)
  (new:aV X.prog X.w (upd H x o) h' x o):Inv X pins σ (upd H x o) { s with heap:=h',toks:=t' }:=I.un (Un.write mu he k heo) (I.hok.write mu he k heo new)
theorem Inv.weak{σ':List (Option V)}(I:Inv X pins σ H s)(hl:σ'.length=σ.length)(w:∀ (i:Nat) v,σ'[i]? = some (some v)->σ[i]? = some (some v)):Inv X pins σ' H s:=
 ⟨I.ok,I.os,I.bare,I.base,let ⟨m,hn,hl'⟩:=I.loc;⟨m,hn,λ i x v e1 e2 e3=>hl' i x v e1 (w i v e2) e3⟩,I.cell,I.free,I.freeC,I.pin,I.hok,hl.trans I.len⟩
theorem Inv.pins_of{pins':List (Addr × Obj)}(I:Inv X pins σ H s)(h:∀ p∈pins',s.heap.get? p.1=some p.2/\H p.1=none/\p.1 ≠ X.env.locals/\p.1 ∉ X.fs/\∀ v,p.2.data ≠ .cell v):Inv X pins' σ H s:=
 ⟨I.ok,I.os,I.bare,I.base,I.loc,I.cell,I.free,I.freeC,λ p hp=>(MA.mp hp).elim (λ z=>I.pin p (MJ _ z)) (h p),I.hok,I.len⟩
theorem mH{N:List Str}(hN:N.Nodup){i j:Nat}{x:Str}(a:N[i]? = some x)(b:N[j]? = some x):i=j:=by
 obtain⟨h1,e1⟩:=L9.mp a;obtain⟨h2,e2⟩:=L9.mp b;exact(List.getElem_inj hN).mp (e1.trans e2.symm)
theorem nV{M:Model}{A:Around}{E:Value->Shared->Prop}{i:Nat}{x:Str}{v:V}{u:Value}{Q:Unit->Shared->Prop}(I:Inv X pins σ H s)(hN:X.N.Nodup)(hi:X.N[i]? = some x)(hx:Loc X.env.scope x)(r:bc v u)
  (h:∀ s',Inv X pins (σ.set i (some v)) H s'->(∃ a,Heap.SameBut a s.heap s'.heap/\(a=X.env.locals\/X.env.cells.lookup x=some a))->Q () s') (hf:X.fn x=true\/X.env.scope.names.lookup x=some .local:=by first|exact .inl rfl|exact .inr rfl|assumption):wpAny M A (storeName X.env x u) Q E s:=by
 obtain⟨m,hn,hl⟩:=id I.loc;have hcls:(X.env.scope.kind == .class || (X.env.scope.kind == .module && X.env.locals != X.env.globals))=false:=by rw [I.ok.kind];rfl
 have hiσ:i < σ.length:=by rw [I.len];exact(L9.mp hi).1
 have cne:=I.cne
 have tracked:∀ {a:Addr} {h':Heap},(∃ o,s.heap.get? a=some o/\H a=none)->Heap.SameBut a s.heap h'->HOk X.prog X.w H h':=λ {a h'} ha hs b ob e=>by
  obtain⟨_,_,hfree⟩:=ha;refine(I.hok b ob e).stay (λ c w' hc q=>(hs.2 c ?_).trans q) (λ _ q=>q) (λ _ _ q=>q) λ _ _ q=>q;rintro rfl
  rcases hc with rfl|hc
  ·rw [hfree] at e;cases e
  ·rw [hfree] at hc;cases hc
 rcases hx with hk|hk
 ·refine wpAny_storeName_local hk hn (λ h' hn' hs=>?_) hcls;obtain⟨oL,_,_,hoL,_⟩:=id hn;refine h _ ⟨I.ok,I.os,I.bare,⟨λ b o e n hb hx=>?_,λ b o e n hb hx=>?_,I.base.free,λ b o e hx=>?_,I.base.tups,I.base.frzs,I.base.tbls⟩,⟨_,hn',λ j y v' e1 e2 e3=>?_⟩,λ y c e=>?_,I.free,I.freeC,λ p hp=>?_,tracked ⟨oL,hoL,I.free⟩ hs,by simpa using I.len⟩ ⟨_,hs,.inl rfl⟩
  ·exact(hs.2 b (Ms (Mm (Mc e) I.ok.above))).trans (I.base.keep b o e n hb hx)
  ·obtain⟨sl,e1⟩:=I.base.slot b o e n hb hx;exact⟨sl,(hs.2 b (Ms (Mm (Mc e) I.ok.above))).trans e1⟩
  ·obtain⟨o',e1⟩:=I.base.there b o e hx;exact⟨o',(hs.2 b (Ms (Mm (Mc e) I.ok.above))).trans e1⟩
  ·by_cases hj:j=i
   ·subst hj;rw [hi] at e1;cases e1;rw [OA hiσ] at e2;cases e2;exact⟨u,r,.inl ⟨hk,by simp⟩⟩
   ·rw [OH (NA hj)] at e2;obtain⟨u',r',q⟩:=hl j y v' e1 e2 e3;refine⟨u',r',?_⟩
    rcases q with ⟨k,e⟩|⟨k,c,e,z⟩
    ·refine .inl ⟨k,?_⟩;have:y ≠ x:=λ e=>hj (mH hN e1 (e ▸ hi));simp [this,e]
    ·exact .inr ⟨k,c,e,z.sameBut hs (cne y c e)⟩
  ·obtain⟨w',z⟩:=I.cell y c e;exact⟨w',z.sameBut hs (cne y c e)⟩
  ·obtain⟨e,n,ne,nf,d⟩:=I.pin p hp;exact⟨(hs.2 p.1 ne).trans e,n,ne,nf,d⟩
 ·have hfn:X.fn x=true:=by
   rcases hf with z|z
   ·exact z
   ·rw [z] at hk;cases hk
  obtain⟨c,hc⟩:=I.ok.has x (.inl hk);obtain⟨w',z⟩:=I.cell x c hc;refine wpAny_storeName_cell I.ok.kind hk hc z (λ h' hc' hs=>?_);obtain⟨oc,hoc,hocd⟩:=id z;refine h { s with heap:=h' } ⟨I.ok,I.os,I.bare,⟨λ b o e n hb hx=>?_,λ b o e n hb hx=>?_,I.base.free,λ b o e hx=>?_,I.base.tups,I.base.frzs,I.base.tbls⟩,⟨m,hn.sameBut hs (NA (cne x c hc)),λ j y v' e1 e2 e3=>?_⟩,λ y c' e=>?_,I.free,I.freeC,λ p hp=>?_,tracked ⟨oc,hoc,I.freeC x c hc⟩ hs,by simpa using I.len⟩ ⟨c,hs,.inr hc⟩
  ·exact(hs.2 b (Ms (Mm (Mc e) (I.ok.cab x c hfn hc)))).trans (I.base.keep b o e n hb hx)
  ·obtain⟨sl,e1⟩:=I.base.slot b o e n hb hx;exact⟨sl,(hs.2 b (Ms (Mm (Mc e) (I.ok.cab x c hfn hc)))).trans e1⟩
  ·obtain⟨o',e1⟩:=I.base.there b o e hx;exact⟨o',(hs.2 b (Ms (Mm (Mc e) (I.ok.cab x c hfn hc)))).trans e1⟩
  ·by_cases hj:j=i
   ·subst hj;rw [hi] at e1;cases e1;rw [OA hiσ] at e2;cases e2;exact⟨u,r,.inr ⟨.inl hk,c,hc,hc'⟩⟩
   ·rw [OH (NA hj)] at e2;obtain⟨u',r',q⟩:=hl j y v' e1 e2 e3;refine⟨u',r',?_⟩
    rcases q with q|⟨k,c',e,z'⟩
    ·exact .inl q
    ·refine .inr ⟨k,c',e,z'.sameBut hs ?_⟩;rintro rfl;exact hj (mH hN e1 (I.ok.inj _ _ _ e hc ▸ hi))
  ·by_cases hcc:c'=c
   ·subst hcc;exact⟨_,hc'⟩
   ·obtain⟨w2,z2⟩:=I.cell y c' e;exact⟨w2,z2.sameBut hs hcc⟩
  ·obtain⟨e,n,ne,nf,d⟩:=I.pin p hp;refine⟨(hs.2 p.1 ?_).trans e,n,ne,nf,d⟩;intro q;rw [q,hoc] at e;have q':oc=p.2:=MU e;exact d w' (by rw [←q'];exact hocd)
theorem mj{M:Model}{A:Around}{E:Value->Shared->Prop}{i:Nat}{x:Str}{v:V}{u:Value}{Q:Unit->Shared->Prop}(I:Inv X pins σ H s)(hN:X.N.Nodup)(hi:X.N[i]? = some x)(hx:Loc X.env.scope x)(r:bc v u)
  (h:∀ s',Inv X pins (σ.set i (some v)) H s'->Q () s') (hf:X.fn x=true\/X.env.scope.names.lookup x=some .local:=by first|exact .inl rfl|exact .inr rfl|assumption):wpAny M A (storeName X.env x u) Q E s:=
 nV I hN hi hx r (λ s' I' _=>h s' I') hf
theorem Inv.call'{s':Shared}{ch:List Addr}(I:Inv X pins σ H s)(ho:s'.os=s.os)(u:Un (frs X.stack) ch H H' s.heap s'.heap)(hok:HOk X.prog X.w H' s'.heap)(hg:AllBare s'.gens)
  (hch:∀ b∈ch,(b∈X.ex\/X.s₀.heap.objs.size<=b)/\b ≠ X.env.locals/\(∀ x c,X.env.cells.lookup x=some c->c ≠ b)/\∀ p∈X.pn++pins,p.1 ≠ b):Inv X pins σ H' s':=by
 obtain⟨h',g',d',t',o'⟩:=s';have e:o'=s.os:=ho;subst e;exact I.call (g':=g') (t':=t') (d':=d') u hok hg hch
end
abbrev XK:=Value->Option Addr->Hp->Prop
abbrev St:=List (Option V)
abbrev VK:=V->Hp->Prop
abbrev TE:=St->Hp->VK->Prop
abbrev TT:=St->Hp->(Bool->Hp->Prop)->Prop
abbrev TA:=St->Hp->(List V->Hp->Prop)->Prop
structure gF where
 nx:St->Hp->Prop
 rt:VK
 bk:St->Hp->Prop:=λ _ _=>False
 ct:St->Hp->Prop:=λ _ _=>False
abbrev TS:=gF->St->Hp->Prop
def EP(X:Cx)(pins:List (Addr × Obj))(σ:St)(Q:VK)(u:Value)(s':Shared):Prop:=∃ v H',Inv X pins σ H' s'/\bc v u/\Q v H'
def TP(X:Cx)(pins:List (Addr × Obj))(σ:St)(Q:Bool->Hp->Prop)(b:Bool)(s':Shared):Prop:=∃ H',Inv X pins σ H' s'/\Q b H'
def AP(X:Cx)(pins:List (Addr × Obj))(σ:St)(Q:List V->Hp->Prop)(us:List Value)(s':Shared):Prop:=∃ vs H',Inv X pins σ H' s'/\br vs us/\Q vs H'
def SP(X:Cx)(pins:List (Addr × Obj))(D:gF)(f:Flow)(s':Shared):Prop:=
 match f with
 | .next=>∃ σ' H',Inv X pins σ' H' s'/\D.nx σ' H'
 | .brk=>∃ σ' H',Inv X pins σ' H' s'/\D.bk σ' H'
 | .cont=>∃ σ' H',Inv X pins σ' H' s'/\D.ct σ' H'
 | .ret u=>∃ v σ' H',Inv X pins σ' H' s'/\bc v u/\D.rt v H'
def PE(X:Cx)(e:Expr)(t:TE):Prop:=
 ∀ (pins:List (Addr × Obj)) (s:Shared) (σ:St) (H:Hp) (Q:VK),Inv X pins σ H s->t σ H Q->wpAny (model X.prog X.w) X.A (eval e X.env) (EP X pins σ Q) X.xe s
def PT(X:Cx)(e:Expr)(t:TT):Prop:=
 ∀ (pins:List (Addr × Obj)) (s:Shared) (σ:St) (H:Hp) (Q:Bool->Hp->Prop),Inv X pins σ H s->t σ H Q->wpAny (model X.prog X.w) X.A (isTrue e X.env (eval e X.env)) (TP X pins σ Q) X.xe s
def PW(X:Cx)(e:Expr)(t:TT):Prop:=
 ∀ (whole:Sem Value) (pins:List (Addr × Obj)) (s:Shared) (σ:St) (H:Hp) (Q:Bool->Hp->Prop),Inv X pins σ H s->t σ H Q->wpAny (model X.prog X.w) X.A (isTrue e X.env whole) (TP X pins σ Q) X.xe s
theorem PW.pt{X:Cx}{e:Expr}{t:TT}(h:PW X e t):PT X e t:=h _
def PA(X:Cx)(es:List Expr)(t:TA):Prop:=
 ∀ (pos:Pos) (pins:List (Addr × Obj)) (s:Shared) (σ:St) (H:Hp) (Q:List V->Hp->Prop),Inv X pins σ H s->t σ H Q->wpAny (model X.prog X.w) X.A (spliced (backTo pos (starEach es X.env))) (AP X pins σ Q) X.xe s
def PS(X:Cx)(st:Stmt)(t:TS):Prop:=
 ∀ (pins:List (Addr × Obj)) (s:Shared) (σ:St) (H:Hp) (D:gF),Inv X pins σ H s->t D σ H->wpAny (model X.prog X.w) X.A (exec st X.env) (SP X pins D) X.xe s
def PSs(X:Cx)(st:List Stmt)(t:TS):Prop:=
 ∀ (pins:List (Addr × Obj)) (s:Shared) (σ:St) (H:Hp) (D:gF),Inv X pins σ H s->t D σ H->wpAny (model X.prog X.w) X.A (execs st X.env) (SP X pins D) X.xe s
theorem thn{α:Type}{t:Sem α}{Q Q':α->Shared->Prop}{M:Model}{A:Around}{E:Value->Shared->Prop}{s:Shared}(h:wpAny M A t Q E s)(hQ:∀ a s,Q a s->Q' a s):wpAny M A t Q' E s:=Nk h hQ λ _ _ x=>x
section
variable {X:Cx}
def Ip(i:Nat):TE:=λ σ H Q=>∃ v,σ[i]? = some (some v)/\Q v H
def tC(v:V):TE:=λ _ H Q=>Q v H
theorem FY{i:Nat}{x:Str}{pos:Pos}(hN:X.N[i]? = some x)(hv:Vis X.env.scope x)(hd:(x == ("__debug__":Str))=false:=by decide)(hcd:(x == ("__classdict__":Str))=false:=by decide):PE X (.Name x pos) (Ip i):=by
 intro pins s σ H Q I h;obtain⟨v,e,h⟩:=h;obtain⟨m,hn,hl⟩:=I.loc;obtain⟨u,r,l⟩:=hl i x v hN e hv;have fin:EP X pins σ Q u s:=⟨v,H,I,r,h⟩
 rcases l with ⟨hk,hm⟩|⟨hk,c,hc,hcell⟩
 ·exact wpAny_Name (wpAny_loadName_local I.ok.kind hk hn hm fin) hd
 ·rcases hk with hk|hk
  ·exact wpAny_Name (wpAny_loadName_cell I.ok.kind hk hc hcell fin) hd
  ·exact wpAny_Name (wpAny_loadName_free I.ok.kind hk hc hcell fin hcd) hd
theorem eW{i j pos}:PE X (.Constant (.int i) j pos) (tC (.int i)):=λ _ _ _ H _ I h=>wpAny_Constant_int ⟨.int i,H,I.tok _,⟨_,rfl⟩,h⟩
theorem dh{b j pos}:PE X (.Constant (.bool b) j pos) (tC (.bl b)):=λ _ _ _ H _ I h=>Constant_bool ⟨.bl b,H,I,rfl,h⟩
theorem uW{j pos}:PE X (.Constant .none j pos) (tC .non):=λ _ _ _ H _ I h=>Constant_none ⟨.non,H,I,rfl,h⟩
theorem fU{x j pos}:PE X (.Constant (.str x) j pos) (tC (.str x)):=λ _ _ _ H _ I h=>Calls.Constant_str ⟨.str x,H,I.tok _,⟨_,rfl⟩,h⟩
def Gl(X:Cx)(x:Str):Prop:=X.env.kindOf x=some .globalImplicit
theorem eu{E:Value->Shared->Prop}{pins:List (Addr × Obj)}{s:Shared}{σ:St}{H:Hp}{x:Str}{u:Value}{pos:Pos}{Q:Value->Shared->Prop}(I:Inv X pins σ H s)(hg:Gl X x)(hm:X.mg x=some u)(h:Q u s)
  (hd:(x == ("__debug__":Str))=false:=by decide):wpAny (model X.prog X.w) X.A (eval (.Name x pos) X.env) Q E s:=
 Calls.Name_function_global I.ok.kind hg (Calls.loadGlobal_global (by rw [I.ok.glob];exact I.mod.glob.keeps I.bk) hm h) hd
theorem fX{E:Value->Shared->Prop}{pins:List (Addr × Obj)}{s:Shared}{σ:St}{H:Hp}{x:Str}{u:Value}{pos:Pos}{Q:Value->Shared->Prop}(I:Inv X pins σ H s)(hg:Gl X x)(hm:X.mg x=none)(hv:bootBuiltins x=some u)(h:Q u s)
  (hn:x ≠ "__name__":=by decide) (hd:(x == ("__debug__":Str))=false:=by decide):wpAny (model X.prog X.w) X.A (eval (.Name x pos) X.env) Q E s:=by
 obtain⟨mb,h1,h2⟩:=I.mod.blt;exact Calls.Name_function_global I.ok.kind hg (Calls.loadGlobal_builtin (by rw [I.ok.glob];exact I.mod.glob.keeps I.bk) hm (by rw [I.ok.blt];exact h1.keeps I.bk) ((h2 x hn).trans hv) h) hd
theorem cS{x:Str}{v:V}{u:Value}{pos:Pos}(hg:Gl X x)(hm:X.mg x=some u)(r:bc v u)(hd:(x == ("__debug__":Str))=false:=by decide):PE X (.Name x pos) (tC v):=
 λ _ _ _ H _ I h=>eu I hg hm ⟨v,H,I,r,h⟩ hd
theorem cU{x:Str}{v:V}{u:Value}{pos:Pos}(hg:Gl X x)(hm:X.mg x=none)(hv:bootBuiltins x=some u)(r:bc v u)(hn:x ≠ "__name__":=by decide)(hd:(x == ("__debug__":Str))=false:=by decide):PE X (.Name x pos) (tC v):=
 λ _ _ _ H _ I h=>fX I hg hm hv ⟨v,H,I,r,h⟩ hn hd
variable {a b:Expr}{ta tb:TE}{pos:Pos}
def tB(t:TE):TT:=λ σ H Q=>t σ H λ x H1=>∃ c,x=.bl c/\Q c H1
theorem FR{e:Expr}{t:TE}(h:PE X e t)(he:∀ whole,isTrue e X.env whole=(do let v ←whole;standAt e.pos;holding [v] (truthy v)):=by intro _;rfl):PT X e (tB t):=by
 intro pins s σ H Q I hw;refine isTrue_plain (thn (h pins s σ H _ I hw) λ v s1 ⟨x,H1,I1,r1,q1⟩=>?_) (he _);obtain⟨d,rfl,q⟩:=q1;cases r1;exact M8 ⟨H1,I1,q⟩
variable {tA tB':TT}{cy:List Expr}
def KZ(t u:TT):TT:=λ σ H Q=>t σ H λ c H1=>if c=true then u σ H1 Q else Q false H1
def tOr(t u:TT):TT:=λ σ H Q=>t σ H λ c H1=>if c=true then Q true H1 else u σ H1 Q
def KS(t:TT):TT:=λ σ H Q=>t σ H λ c H1=>Q (!c) H1
theorem jg(ha:PT X a tA):PW X (.BoolOp .And [a] pos) tA:=by
 intro wh pins s σ H Q I h;refine isTrue_and (thn (ha pins s σ H Q I h) λ c s1 e=>?_)
 cases c with
 | true=>exact isTrue_and_nil e
 | false=>exact e
theorem FP(ha:PT X a tA):PW X (.BoolOp .Or [a] pos) tA:=by
 intro wh pins s σ H Q I h;refine isTrue_or (thn (ha pins s σ H Q I h) λ c s1 e=>?_)
 cases c with
 | false=>exact isTrue_or_nil e
 | true=>exact e
theorem FQ(ha:PT X a tA)(hb:PW X (.BoolOp .And (b::cy) pos) tB'):PW X (.BoolOp .And (a::b::cy) pos) (KZ tA tB'):=by
 intro wh pins s σ H Q I h;refine isTrue_and (thn (ha pins s σ H _ I h) λ c s1 ⟨H1,I1,q1⟩=>?_)
 cases c with
 | true=>exact hb wh pins s1 σ H1 Q I1 q1
 | false=>exact⟨H1,I1,q1⟩
theorem JJ(ha:PT X a tA)(hb:PW X (.BoolOp .Or (b::cy) pos) tB'):PW X (.BoolOp .Or (a::b::cy) pos) (tOr tA tB'):=by
 intro wh pins s σ H Q I h;refine isTrue_or (thn (ha pins s σ H _ I h) λ c s1 ⟨H1,I1,q1⟩=>?_)
 cases c with
 | true=>exact⟨H1,I1,q1⟩
 | false=>exact hb wh pins s1 σ H1 Q I1 q1
theorem FT(ha:PT X a tA):PT X (.UnaryOp .Not a pos) (KS tA):=by
 intro pins s σ H Q I h;exact isTrue_not (ha pins s σ H (λ c H1=>Q (!c) H1) I h)
def Fb(ta tb:TE):TE:=λ σ H Q=>ta σ H λ x H1=>∃ c,x=.bl c/\if c=true then tb σ H1 Q else Q (.bl false) H1
def E4(ta:TE):TE:=λ σ H Q=>ta σ H λ x H1=>∃ c,x=.bl c/\Q (.bl (!c)) H1
theorem kR{op}{t:TE}(h:PE X a t):PE X (.BoolOp op [a] pos) t:=λ pins s σ H Q I hw=>BoolOp_one (h pins s σ H Q I hw)
theorem Gg(ha:PE X a ta)(hb:PE X (.BoolOp .And (b::cy) pos) tb):PE X (.BoolOp .And (a::b::cy) pos) (Fb ta tb):=by
 intro pins s σ H Q I h;refine BoolOp_and (thn (ha pins s σ H _ I h) λ v s1 ⟨x,H1,I1,r1,q1⟩=>?_);obtain⟨c,rfl,q1⟩:=q1;cases r1;refine M8 ?_
 cases c with
 | true=>exact hb pins s1 σ H1 Q I1 q1
 | false=>exact⟨.bl false,H1,I1,rfl,q1⟩
theorem FZ(ha:PE X a ta):PE X (.UnaryOp .Not a pos) (E4 ta):=by
 intro pins s σ H Q I h;refine UnaryOp_ (thn (ha pins s σ H _ I h) λ v s1 ⟨x,H1,I1,r1,q1⟩=>?_);obtain⟨c,rfl,q1⟩:=q1;cases r1;exact not_of (M8 ⟨.bl (!c),H1,I1,rfl,q1⟩)
def tIf(t:TT)(ta tb:TE):TE:=λ σ H Q=>t σ H λ c H1=>if c=true then ta σ H1 Q else tb σ H1 Q
theorem rp{c:Expr}(hc:PT X c tA)(ha:PE X a ta)(hb:PE X b tb):PE X (.IfExp c a b pos) (tIf tA ta tb):=by
 intro pins s σ H Q I h;refine wpAny_IfExp (thn (hc pins s σ H _ I h) λ d s1 ⟨H1,I1,q1⟩=>?_)
 cases d with
 | true=>exact ha pins s1 σ H1 Q I1 q1
 | false=>exact hb pins s1 σ H1 Q I1 q1
end
def SqL(K:W.Frag)(H:Hp)(a:Addr)(xs:List V):Prop:=
 Rd H a (.lst xs) \/
  ∃ (o:Obj) (its:Array Value) (n:Nat),K.lookup a=some o/\o.cls=.type "list" /\ o.dict=none/\o.data=.seq its n/\its.size<=sizeLine/\br xs its.toList
def SqT(K:W.Frag)(H:Hp)(a:Addr)(xs:List V):Prop:=
 Rd H a (.tup xs) \/
  ∃ (o:Obj) (its:Array Value) (n:Nat),K.lookup a=some o/\o.cls=.type "tuple" /\ o.data=.seq its n/\its.size<=sizeLine/\br xs its.toList
def LW:Value->Option V
 | .none=>some .non
 | .bool b=>some (.bl b)
 | .int i _=>some (.int i)
 | .str x _=>some (.str x)
 | .bytes b _=>some (.byt b)
 | .float b _=>some (.flt b)
 | .ref a=>some (.ref a)
 | .type n=>some (.ty n)
 | _=>none
theorem bc.abs{x:V}{u:Value}(r:bc x u):LW u=some x:=by
 cases x with
 | non=>cases r;rfl
 | bl _=>cases r;rfl
 | int _=>obtain⟨t,rfl⟩:=r;rfl
 | str _=>obtain⟨t,rfl⟩:=r;rfl
 | byt _=>obtain⟨t,rfl⟩:=r;rfl
 | flt _=>obtain⟨t,rfl⟩:=r;rfl
 | ref _=>cases r;rfl
 | ty _=>cases r;rfl
theorem bc.inj{x y:V}{u:Value}(r:bc x u)(q:bc y u):x=y:=MU (r.abs.symm.trans q.abs)
theorem br.inj:∀ {xs ys:List V}{us:List Value},br xs us->br ys us->xs=ys
 | _,_,_,.nil,.nil=>rfl
 | _,_,_,.cons r t,.cons r' t'=>by rw [r.inj r',br.inj t t']
section
variable {X:Cx}{pins:List (Addr × Obj)}{σ:St}{H:Hp}{s:Shared}{a:Addr}{xs ys:List V}
theorem SqL.of{K:W.Frag}(h:H a=some (.lst xs)):SqL K H a xs:=.inl (.inl h)
theorem SqT.of{K:W.Frag}(h:H a=some (.tup xs)):SqT K H a xs:=.inl (.inl h)
theorem Inv.list(I:Inv X pins σ H s)(h:SqL X.K H a xs):∃ its:List Value,br xs its/\PlainL s.heap a its.toArray/\xs.length<=sizeLine:=by
 rcases h with h|⟨o,its,n,hk,hc,hd,hs,hz,r⟩
 ·obtain⟨z,its,n,r,e⟩:=h.ok I.hok;exact⟨its,r,⟨_,n,e,rfl,rfl,rfl⟩,z⟩
 ·refine⟨its.toList,r,⟨o,n,I.kIn a o hk,hc,hd,by simpa using hs⟩,?_⟩;have e:=r.length;simp only [OL] at e;omega
theorem Inv.tuple(I:Inv X pins σ H s)(h:SqT X.K H a xs):∃ its:List Value,br xs its/\IsTup s.heap a its.toArray/\xs.length<=sizeLine:=by
 rcases h with h|⟨o,its,n,hk,hc,hs,hz,r⟩
 ·obtain⟨z,its,r,p⟩:=h.ok I.hok;exact⟨its,r,p,z⟩
 ·refine⟨its.toList,r,⟨o,I.kIn a o hk,hc,n,by simpa using hs⟩,?_⟩;have e:=r.length;simp only [OL] at e;omega
theorem Inv.list_inj(I:Inv X pins σ H s)(h:SqL X.K H a xs)(h':SqL X.K H a ys):xs=ys:=by
 obtain⟨its,r,⟨o,n,e,_,_,d⟩,_⟩:=I.list h;obtain⟨its',r',⟨o',n',e',_,_,d'⟩,_⟩:=I.list h';rw [e] at e';cases e';rw [d] at d'
 injection d' with d1 _
 have:its=its':=by simpa using NI Array.toList d1
 subst this;exact r.inj r'
theorem Inv.tuple_inj(I:Inv X pins σ H s)(h:SqT X.K H a xs)(h':SqT X.K H a ys):xs=ys:=by
 obtain⟨its,r,⟨o,e,_,n,d⟩,_⟩:=I.tuple h;obtain⟨its',r',⟨o',e',_,n',d'⟩,_⟩:=I.tuple h';rw [e] at e';cases e';rw [d] at d'
 injection d' with d1 _
 have:its=its':=by simpa using NI Array.toList d1
 subst this;exact r.inj r'
end
abbrev Cx.wish(X:Cx)(E:Value->Shared->Prop):Cx:={ X with xe:=E }
abbrev Cx.nox(X:Cx):Cx:=X.wish λ _ _=>False
theorem Cx.Ok.wish{X:Cx}(ok:X.Ok)(E:Value->Shared->Prop):(X.wish E).Ok:=
 ⟨ok.mod,ok.kind,ok.glob,ok.blt,ok.above,ok.inj,ok.has,ok.cab,ok.hd,ok.frames,ok.stk,ok.exf,ok.bs,ok.bsz,ok.noex,ok.exfs,ok.funs,ok.frf⟩
theorem Cx.Ok.unwish{X:Cx}{E:Value->Shared->Prop}(ok:(X.wish E).Ok):X.Ok:=
 ⟨ok.mod,ok.kind,ok.glob,ok.blt,ok.above,ok.inj,ok.has,ok.cab,ok.hd,ok.frames,ok.stk,ok.exf,ok.bs,ok.bsz,ok.noex,ok.exfs,ok.funs,ok.frf⟩
section
variable {X:Cx}{pins:List (Addr × Obj)}{σ:St}{H:Hp}{s:Shared}{E:Value->Shared->Prop}
theorem Inv.wish(I:Inv X pins σ H s)(E:Value->Shared->Prop):Inv (X.wish E) pins σ H s:=⟨I.ok.wish E,I.os,I.bare,I.base,I.loc,I.cell,I.free,I.freeC,I.pin,I.hok,I.len⟩
theorem Inv.unwish(I:Inv (X.wish E) pins σ H s):Inv X pins σ H s:=⟨I.ok.unwish,I.os,I.bare,I.base,I.loc,I.cell,I.free,I.freeC,I.pin,I.hok,I.len⟩
theorem SP.unwish{D:gF}{f:Flow}{s':Shared}(h:SP (X.wish E) pins D f s'):SP X pins D f s':=by
 cases f with
 | next=>obtain⟨σ',H',I,q⟩:=h;exact⟨σ',H',I.unwish,q⟩
 | brk=>obtain⟨σ',H',I,q⟩:=h;exact⟨σ',H',I.unwish,q⟩
 | cont=>obtain⟨σ',H',I,q⟩:=h;exact⟨σ',H',I.unwish,q⟩
 | ret u=>obtain⟨v,σ',H',I,r,q⟩:=h;exact⟨v,σ',H',I.unwish,r,q⟩
theorem PSs.nox{st:List Stmt}{t:TS}(h:PSs X.nox st t):PSs X st t:=λ pins s σ H D I hw=>
 Nk (h pins s σ H D (I.wish _) hw) (λ _ _ q=>q.unwish) λ _ _ z=>False.elim z
end
section
variable {X:Cx}{st:Stmt}{cy:List Stmt}{t u:TS}{e:Expr}{te:TE}{pos:Pos}
def E5:TS:=λ D σ H=>D.nx σ H
def KQ(t u:TS):TS:=λ D σ H=>t { D with nx:=u D } σ H
theorem ay:PSs X [] E5:=λ _ _ σ H _ I h=>Ot ⟨σ,H,I,h⟩
theorem gI(h1:PS X st t)(h2:PSs X cy u):PSs X (st::cy) (KQ t u):=by
 intro pins s σ H D I h;refine wpAny_execs_cons (thn (h1 pins s σ H { D with nx:=u D } I h) λ f s1 q=>?_)
 cases f with
 | next=>
  obtain⟨σ',H',I',q⟩:=q;exact h2 pins s1 σ' H' D I' q
 | ret v=>exact q
 | brk=>exact q
 | cont=>exact q
theorem lT(h1:PS X st t):PSs X [st] t:=by
 intro pins s σ H D I h;refine wpAny_execs_cons (thn (h1 pins s σ H D I h) λ f s1 q=>?_)
 cases f with
 | next=>exact Ot q
 | ret v=>exact q
 | brk=>exact q
 | cont=>exact q
theorem Inv.quiet{pins:List (Addr × Obj)}{σ:St}{H:Hp}{s:Shared}(I:Inv X pins σ H s):interactive X.env=false:=by simp [interactive,I.ok.kind]
def E7(te:TE):TS:=λ D σ H=>te σ H λ _ H1=>D.nx σ H1
theorem CB(he:PE X e te)(hs:swapsWith e none pos.line X.env=pure false:=by rfl):PS X (.Expr e pos) (E7 te):=by
 intro pins s σ H D I h;exact wpAny_Expr_any (thn (he pins s σ H _ I h) λ v s1 ⟨x,H1,I1,r1,q1⟩=>⟨σ,H1,I1,q1⟩) I.quiet hs
def KR(te:TE):TS:=λ D σ H=>te σ H D.rt
theorem uV(he:PE X e te):PS X (.Return (some e) pos) (KR te):=by
 intro pins s σ H D I h;exact wpAny_Return_some (thn (he pins s σ H _ I h) λ v s1 ⟨x,H1,I1,r1,q1⟩=>⟨x,σ,H1,I1,r1,q1⟩)
def Ir(c:TT)(t u:TS):TS:=λ D σ H=>c σ H λ b H1=>if b=true then t D σ H1 else u D σ H1
theorem BW{c:Expr}{a b:List Stmt}{tc:TT}(hc:PT X c tc)(ha:PSs X a t)(hb:PSs X b u):PS X (.If c a b pos) (Ir tc t u):=by
 intro pins s σ H D I h;refine wpAny_If (thn (hc pins s σ H _ I h) λ d s1 ⟨H1,I1,q1⟩=>?_)
 cases d with
 | true=>exact ha pins s1 σ H1 D I1 q1
 | false=>exact hb pins s1 σ H1 D I1 q1
def FK:TS:=λ _ _ _=>False
theorem fJ:PS X st FK:=λ _ _ _ _ _ _ h=>h.elim
end
abbrev TG:=V->St->Hp->(St->Hp->Prop)->Prop
abbrev TGs:=List V->St->Hp->(St->Hp->Prop)->Prop
def PG(X:Cx)(target:Expr)(t:TG):Prop:=
 ∀ (pins:List (Addr × Obj)) (s:Shared) (σ:St) (H:Hp) (v:V) (u:Value) (Q:St->Hp->Prop),Inv X pins σ H s->bc v u->t v σ H Q →
  wpAny (model X.prog X.w) X.A (assign target X.env u) (λ _ s'=>∃ σ' H',Inv X pins σ' H' s'/\Q σ' H') X.xe s
def PGs(X:Cx)(ts:List Expr)(t:TGs):Prop:=
 ∀ (pins:List (Addr × Obj)) (s:Shared) (σ:St) (H:Hp) (vs:List V) (us:List Value) (Q:St->Hp->Prop),Inv X pins σ H s->br vs us->t vs σ H Q →
  wpAny (model X.prog X.w) X.A (assignInOrder ((assignEach ts X.env).map (·.2)) us) (λ _ s'=>∃ σ' H',Inv X pins σ' H' s'/\Q σ' H') X.xe s
section
variable {X:Cx}{pos:Pos}
def dE(i:Nat):TG:=λ v σ H Q=>Q (σ.set i (some v)) H
theorem vG{i:Nat}{x:Str}(hN:X.N.Nodup)(hi:X.N[i]? = some x)(hx:Loc X.env.scope x)(hf:X.fn x=true\/X.env.scope.names.lookup x=some .local:=by first|exact .inl rfl|exact .inr rfl|assumption):PG X (.Name x pos) (dE i):=by
 intro pins s σ H v u Q I r h;exact wpAny_assign_Name (mj I hN hi hx r (λ s' I'=>⟨_,H,I',h⟩) hf)
def Lr:TGs:=λ vs σ H Q=>vs=[]/\Q σ H
def FA(t:TG)(u:TGs):TGs:=λ vs σ H Q=>∃ v r,vs=v::r/\t v σ H λ σ' H'=>u r σ' H' Q
theorem CG:PGs X [] Lr:=by
 intro pins s σ H vs us Q I r h;obtain⟨e,h⟩:=h;subst e;cases r;exact assignInOrder_nil ⟨σ,H,I,h⟩
theorem zB{e:Expr}{es:List Expr}{t:TG}{u:TGs}(h1:PG X e t)(h2:PGs X es u)
  (hs:(assignEach (e::es) X.env).map (·.2)=assign e X.env::(assignEach es X.env).map (·.2):=by rfl):PGs X (e::es) (FA t u):=by
 intro pins s σ H vs us Q I r h;obtain⟨v,vr,e1,h⟩:=h;subst e1
 cases r with
 | cons r rr=>
  rw [hs];refine assignInOrder_cons (thn (h1 pins s σ H _ _ _ I r h) λ _ s1 ⟨σ1,H1,I1,q1⟩=>?_);exact h2 pins s1 σ1 H1 _ _ Q I1 rr q1
def Lq(K:W.Frag)(n:Nat)(t:TGs):TG:=λ v σ H Q=>∃ a xs,v=.ref a/\SqT K H a xs/\xs.length=n/\t xs σ H Q
theorem FX{es:List Expr}{k:Nat}{t:TGs}{n:Nat}(hc:X.calm=true)(h:PGs X es t)
  (hn:(assignEach es X.env).length=n:=by rfl) (hst:(assignEach es X.env).findIdx? (·.1)=none:=by rfl):PG X (.Tuple es k pos) (Lq X.K n t):=by
 intro pins s σ H v u Q I r hw;obtain⟨a,xs,e1,hq,hl,hw⟩:=hw;subst e1;cases r;obtain⟨its,rv,ht,hz⟩:=I.tuple hq;refine assign_Tuple_tuple (I.ok.hd hc) ht (by simp [hn,←hl,rv.length]) hst λ h' hx=>?_;have I1:Inv X pins σ H { s with heap:=h' }:=I.kept (t':=s.toks) λ b o e=>hx b o (Ms (Mc e)) e;exact h pins _ σ H xs _ Q I1 (by simpa using rv) hw
def IU(te:TE)(g:TG):TS:=λ D σ H=>te σ H λ x H1=>g x σ H1 D.nx
theorem Bd{tg e:Expr}{te:TE}{g:TG}(he:PE X e te)(hg:PG X tg g)(hs:swapsWithSole [tg] e pos.line X.env=pure false:=by rfl)(hw:swappedStores [tg] e X.env=pure none:=by rfl)
  (h1:(assignEach [tg] X.env).map (·.2)=[assign tg X.env]:=by rfl):PS X (.Assign [tg] e pos) (IU te g):=by
 intro pins s σ H D I h;refine wpAny_Assign_stores (thn (he pins s σ H _ I h) λ v s1 ⟨x,H1,I1,r1,q1⟩=>?_) hs hw;rw [h1];exact thn (hg pins s1 σ H1 x v _ I1 r1 q1) λ _ s2 q=>q
theorem dX{i:Nat}{x:Str}{e:Expr}{te:TE}{pos':Pos}(hN:X.N.Nodup)(hi:X.N[i]? = some x)(hx:Loc X.env.scope x)(he:PE X e te)(hs:swapsWith e (some (.Name x pos')) pos.line X.env=pure false:=by rfl)(hf:X.fn x=true\/X.env.scope.names.lookup x=some .local:=by first|exact .inl rfl|exact .inr rfl|assumption) :
  PS X (.Assign [.Name x pos'] e pos) (IU te (dE i)):=by
 intro pins s σ H D I h;refine wpAny_Assign_Name (thn (he pins s σ H _ I h) λ v s1 ⟨y,H1,I1,r1,q1⟩=>?_) hs;exact mj I1 hN hi hx r1 (λ s2 I2=>⟨_,H1,I2,q1⟩) hf
end
section
variable {X:Cx}{pos:Pos}
def uK(c:TT)(tb:TS):TS:=λ D σ H=>∃ W:Nat->St->Hp->Prop,(∃ m,W m σ H)/\∀ m σ H,W m σ H →
 c σ H λ b H1=>if b=true then ∃ N:St->Hp->Prop,(∀ σ' H',N σ' H'->∃ m',m' < m/\W m' σ' H')/\tb { D with nx:=N,ct:=N,bk:=D.nx } σ H1 else D.nx σ H1
theorem rn{c:Expr}{body:List Stmt}{tc:TT}{tb:TS}(hp:PassesOwn (model X.prog X.w) X.A X.env X.xe)(hc:PT X c tc)(hb:PSs X body tb):PS X (.While c body [] pos) (uK tc tb):=by
 intro pins s σ H D I h;obtain⟨W,⟨m0,w0⟩,turn⟩:=h;refine wpAny_While (codeAny_whileLoop (λ n s'=>∃ σ' H',Inv X pins σ' H' s'/\W n σ' H') ?_ m0 ⟨σ,H,I,w0⟩);rintro n s1 ⟨σ1,H1,I1,w1⟩;refine NP hp (thn (hc pins s1 σ1 H1 _ I1 (turn n σ1 H1 w1)) λ b s2 ⟨H2,I2,q2⟩=>?_)
 cases b with
 | true=>
  obtain⟨N,hN,q2⟩:=q2;rw [My rfl];refine NP hp (thn (hb pins s2 σ1 H2 _ I2 q2) λ f s3 q3=>?_)
  cases f with
  | next=>
   obtain⟨σ3,H3,I3,n3⟩:=q3;obtain⟨m',hm,w3⟩:=hN σ3 H3 n3;exact⟨m',hm,σ3,H3,I3,w3⟩
  | cont=>
   obtain⟨σ3,H3,I3,n3⟩:=q3;obtain⟨m',hm,w3⟩:=hN σ3 H3 n3;exact⟨m',hm,σ3,H3,I3,w3⟩
  | brk=>exact q3
  | ret v=>exact q3
 | false=>
  rw [Mw Mj];exact Ot ⟨σ1,H2,I2,q2⟩
end
structure It where
 go:Nat->Hp->Prop
 yld:Nat->Hp->V->Hp->Prop
 stop:Nat->Hp->Prop
def kO(X:Cx)(pins:List (Addr × Obj))(H:Hp)(b:Addr):Prop:=
 H b=none/\b ≠ X.env.locals/\b ∉ X.fs/\(b∈X.ex\/X.s₀.heap.objs.size<=b)/\(∀ x c,X.env.cells.lookup x=some c->c ≠ b)/\∀ p∈X.pn++pins,p.1 ≠ b
theorem Inv.fpOk{X:Cx}{pins:List (Addr × Obj)}{σ:St}{H H':Hp}{s:Shared}{b:Addr}(I:Inv X pins σ H s)(hb:s.heap.objs.size<=b)(hn:H' b=none):kO X pins H' b:=by
 refine⟨hn,Om (Mm I.lt hb),I.nofs hb,.inr (MQ I.sz hb),λ x c e z=>?_,λ p hp z=>?_⟩
 ·obtain⟨v,q⟩:=I.cell x c e;exact absurd (Mm q.lt (by rw [z];exact hb)) (M5 _)
 ·exact absurd (Mm (Mc (I.pin p hp).1) (by rw [z];exact hb)) (M5 _)
structure AV(P:Program)(w:World)(K:W.Frag)(tg:Expr)(J:It)(fp:List Addr)(it:Addr)(tn:Nat->Heap->Prop):Prop where
 mem:it∈fp
 obj:∀ i h,tn i h->∀ b∈fp,∃ o,h.get? b=some o/\∀ v,o.data ≠ .cell v
 keep:∀ i h h',tn i h->(∀ b∈fp,∀ o,h.get? b=some o->h'.get? b=some o)->tn i h'
 item:∀ (X:Cx),X.prog=P->X.w=w->X.K=K->X.calm=true->∀ (i:Nat) (pins:List (Addr × Obj)) (s:Shared) (σ:St) (H:Hp) (E:Value->Shared->Prop),Inv X pins σ H s->(∀ b∈fp,kO X pins H b)->tn i s.heap->J.go i H →
  wpAny (model P w) X.A (pyNext (.ref it)) (λ r s1=>∃ u,r=some u /\
   wpAny (model P w) X.A (letOwnedTupleGo tg (.ref it) u) (λ _ s2=>∃ x H',Inv X pins σ H' s2/\bc x u/\J.yld i H x H'/\tn (i+1) s2.heap/\∀ b∈fp,H' b=none) E s1) E s
 done:∀ (X:Cx),X.prog=P->X.w=w->X.K=K->X.calm=true->∀ (i:Nat) (pins:List (Addr × Obj)) (s:Shared) (σ:St) (H:Hp) (E:Value->Shared->Prop),Inv X pins σ H s->(∀ b∈fp,kO X pins H b)->tn i s.heap->J.stop i H →
  wpAny (model P w) X.A (pyNext (.ref it)) (λ r s1=>r=none/\Inv X pins σ H s1) E s
 self:∀ (A:Around) (i:Nat) (s:Shared) (Q:Value->Shared->Prop) (E:Value->Shared->Prop),tn i s.heap->Q (.ref it) s->wpAny (model P w) A (pyIter (.ref it)) Q E s
abbrev TI:=St->Hp->(It->Hp->Prop)->Prop
def PIE(X:Cx)(pins:List (Addr × Obj))(σ:St)(tg:Expr)(R:It->Hp->Prop)(itv:Value)(s2:Shared):Prop:=
 ∃ (it:Addr) (fp:List Addr) (tn:Nat->Heap->Prop) (J:It) (H':Hp),itv=.ref it/\Inv X pins σ H' s2/\AV X.prog X.w X.K tg J fp it tn/\tn 0 s2.heap/\(∀ b∈fp,kO X pins H' b)/\R J H'
def PI(X:Cx)(tg iter:Expr)(wi:TI):Prop:=
 ∀ (pins:List (Addr × Obj)) (s:Shared) (σ:St) (H:Hp) (R:It->Hp->Prop),Inv X pins σ H s->wi σ H R →
  wpAny (model X.prog X.w) X.A (eval iter X.env) (λ v s1=>wpAny (model X.prog X.w) X.A (pyIter v) (PIE X pins σ tg R) X.xe s1) X.xe s
theorem yV{M:Model}{A:Around}{E:Value->Shared->Prop}{s:Shared}{tg:Expr}{it:Addr}{u:Value}{o:Obj}{n:String}{vs:Array Value}{Q:Unit->Shared->Prop}(ho:s.heap.get? it=some o)(hc:o.cls=.type n)(hd:o.data=.fields vs)
    (hn:["enumerate", "zip", "dict_itemiterator", "dict_reverseitemiterator", "odict_iterator", "itertools.zip_longest", "itertools.pairwise"].contains n=false) (hQ:Q () s):wpAny M A (letOwnedTupleGo tg (.ref it) u) Q E s:=by
  unfold letOwnedTupleGo
  cases tg<;>first
    | exact Mf hQ
    | (cases u<;>first
        | exact Mf hQ
        | (refine L7 (wpAny_load ho ?_)
           rw [hc,hd]
           show wpAny M A (if (["enumerate", "zip", "dict_itemiterator", "dict_reverseitemiterator", "odict_iterator", "itertools.zip_longest", "itertools.pairwise"].contains n && vs[0]? == some (rawInt _))=true then _ else _) Q E s
           rw [Mw (by intro h;rw [hn,Bool.false_and] at h;cases h)];exact Mf hQ))
def Itl(K:W.Frag)(a:Addr):It:=
 ⟨λ i H=>∃ xs x,SqL K H a xs/\xs[i]? = some x,λ i H x H'=>H'=H/\∀ xs,SqL K H a xs->xs[i]? = some x,λ i H=>∃ xs,SqL K H a xs/\xs.length<=i⟩
def Itt(K:W.Frag)(a:Addr):It:=
 ⟨λ i H=>∃ xs x,SqT K H a xs/\xs[i]? = some x,λ i H x H'=>H'=H/\∀ xs,SqT K H a xs->xs[i]? = some x,λ i H=>∃ xs,SqT K H a xs/\xs.length<=i⟩
def Itr(lo:Int)(n:Nat):It:=⟨λ i _=>i < n,λ i H x H'=>H'=H/\x=.int (lo+i),λ i _=>n<=i⟩
theorem wt{P:Program}{w:World}{K:W.Frag}{tg:Expr}(a it:Addr):AV P w K tg (Itl K a) [it] it (λ i h=>h.IsListIter it a i) where
 mem:=by simp
 obj:=λ i h st b hb=>by
  have e:b=it:=by simpa using hb
  subst e;obtain⟨o,e,c,d⟩:=st;exact⟨o,e,λ v z=>by rw [d] at z;cases z⟩
 keep:=λ i h h' st k=>st.at λ o e=>k it (by simp) o e
 item:=by
  intro X hP hw hK hc i pins s σ H E I hf st hg;subst hP hw hK;obtain⟨xs,x,hq,hx⟩:=hg;obtain⟨its,rv,p,hz⟩:=I.list hq;obtain⟨u,hu,ru⟩:=rv.get hx;obtain⟨f0,f1,f2,f3,f4,f5⟩:=hf it (by simp);refine OI st p.isList (x:=u) (by simpa using hu) λ h' st' sb=>?_;have I1:Inv X pins σ H { s with heap:=h' }:=I.turned (t':=s.toks) (λ b o hb e=>(sb.2 b hb).trans e) f0 f1 f3 f4 f5;obtain⟨o,e,c,d⟩:=id st';exact⟨u,rfl,yV (s:={ s with heap:=h' }) e c d (by decide) ⟨x,H,I1,ru,⟨rfl,λ ys hy=>by rw [I.list_inj hy hq];exact hx⟩,st',λ b hb=>(hf b hb).1⟩⟩
 done:=by
  intro X hP hw hK hc i pins s σ H E I hf st hg;subst hP hw hK;obtain⟨xs,hq,hx⟩:=hg;obtain⟨its,rv,p,hz⟩:=I.list hq;obtain⟨f0,f1,f2,f3,f4,f5⟩:=hf it (by simp);have hl:=rv.length;exact OM (I.ok.hd hc) st p.isList (by simp;omega) λ h' eb=>⟨rfl,I.turned (t':=s.toks) (λ b o hb e=>eb b o hb e) f0 f1 f3 f4 f5⟩
 self:=λ _ _ _ _ _ st h=>wpAny_pyIter_listiter st h
theorem sr{P:Program}{w:World}{K:W.Frag}{tg:Expr}(a it:Addr):AV P w K tg (Itt K a) [it] it (λ i h=>h.IsTupleIter it a i) where
 mem:=by simp
 obj:=λ i h st b hb=>by
  have e:b=it:=by simpa using hb
  subst e;obtain⟨o,e,c,d⟩:=st;exact⟨o,e,λ v z=>by rw [d] at z;cases z⟩
 keep:=λ i h h' st k=>st.at λ o e=>k it (by simp) o e
 item:=by
  intro X hP hw hK hc i pins s σ H E I hf st hg;subst hP hw hK;obtain⟨xs,x,hq,hx⟩:=hg;obtain⟨its,rv,p,hz⟩:=I.tuple hq;obtain⟨u,hu,ru⟩:=rv.get hx;obtain⟨f0,f1,f2,f3,f4,f5⟩:=hf it (by simp);refine wpAny_pyNext_tuple_item st (show s.heap.IsTuple a its.toArray from p) (x:=u) (by simpa using hu) λ h' st' sb=>?_;have I1:Inv X pins σ H { s with heap:=h' }:=I.turned (t':=s.toks) (λ b o hb e=>(sb.2 b hb).trans e) f0 f1 f3 f4 f5;obtain⟨o,e,c,d⟩:=id st';exact⟨u,rfl,yV (s:={ s with heap:=h' }) e c d (by decide) ⟨x,H,I1,ru,⟨rfl,λ ys hy=>by rw [I.tuple_inj hy hq];exact hx⟩,st',λ b hb=>(hf b hb).1⟩⟩
 done:=by
  intro X hP hw hK hc i pins s σ H E I hf st hg;subst hP hw hK;obtain⟨xs,hq,hx⟩:=hg;obtain⟨its,rv,p,hz⟩:=I.tuple hq;obtain⟨f0,f1,f2,f3,f4,f5⟩:=hf it (by simp);have hl:=rv.length;exact wpAny_pyNext_tuple_end (I.ok.hd hc) st (show s.heap.IsTuple a its.toArray from p) (by simp;omega) λ h' eb=>⟨rfl,I.turned (t':=s.toks) (λ b o hb e=>eb b o hb e) f0 f1 f3 f4 f5⟩
 self:=λ _ _ _ _ _ st h=>wpAny_pyIter_tupleiter st h
theorem su{P:Program}{w:World}{K:PySem.W.Frag}{tg:Expr}(it:Addr)(lo:Int)(n:Nat):AV P w K tg (Itr lo n) [it] it (λ i h=>IsRangeIter h it (lo+(i:Nat) * 1) ((n:Int) - (i:Nat)) 1) where
 mem:=by simp
 obj:=λ i h st b hb=>by
  have e:b=it:=by simpa using hb
  subst e
  exact⟨_,st,λ v z=>by
   have z':Data.fields _=Data.cell v:=z;cases z'⟩
 keep:=λ i h h' st k=>k it (by simp) _ st
 item:=by
  intro X hP hw hK hc i pins s σ H E I hf st hg;subst hP hw hK;obtain⟨f0,f1,f2,f3,f4,f5⟩:=hf it (by simp);have W:=Walks.range (prog:=X.prog) (w:=X.w) (I.ok.hd hc) it lo 1 n;refine W.item i s _ _ hg st λ v h' tk hv st' kk=>?_;obtain⟨t,rfl⟩:=hv;have I1:Inv X pins σ H { s with heap:=h',toks:=tk }:=I.turned (λ b o hb e=>kk b o (by simpa using hb) e) f0 f1 f3 f4 f5;refine⟨_,rfl,yV (s:={ s with heap:=h',toks:=tk }) (n := "range_iterator") st' rfl rfl (by decide) ⟨.int (lo+i),H,I1,⟨t,?_⟩,⟨rfl,rfl⟩,st',λ b hb=>(hf b hb).1⟩⟩;rw [Int.mul_one]
 done:=by
  intro X hP hw hK hc i pins s σ H E I hf st hg;subst hP hw hK;obtain⟨f0,f1,f2,f3,f4,f5⟩:=hf it (by simp);exact wpAny_pyNext_range_end (I.ok.hd hc) st (by have:n<=i:=hg;omega) λ h' eb=>⟨rfl,I.turned (t':=s.toks) (λ b o hb e=>eb b o hb e) f0 f1 f3 f4 f5⟩
 self:=λ _ _ _ _ _ st h=>wpAny_pyIter_rangeiter st h
section
variable {X:Cx}{tg:Expr}
theorem zu{pins:List (Addr × Obj)}{σ:St}{H:Hp}{s:Shared}{R:It->Hp->Prop}{E:Value->Shared->Prop}{lo hi:Int}{t u v:Tok}{tk:Nat}(I:Inv X pins σ H s)(h1:-(2 ^ 62)<=lo)(h2:lo < 2 ^ 62)(h3:-(2 ^ 62)<=hi)(h4:hi < 2 ^ 62)
  (q:R (Itr lo (hi - lo).toNat) H):wpAny (model X.prog X.w) X.A (pyIter (.ref s.heap.objs.size)) (PIE X pins σ tg R) E { s with heap:=s.heap.push { cls:=.type "range",data:=.fields #[.int lo t,.int hi u,.int 1 v] },toks:=tk }:=by
 refine wpAny_pyIter_range (IsRange.new ..) (small_one h1 h2 h3 h4) ?_;have I1:Inv X pins σ H { s with heap:=s.heap.push { cls:=.type "range",data:=.fields #[.int lo t,.int hi u,.int 1 v] },toks:=tk }:=I.kept λ b o e=>Ma _ e
 refine⟨(s.heap.push { cls:=.type "range",data:=.fields #[.int lo t,.int hi u,.int 1 v] }).objs.size,[(s.heap.push { cls:=.type "range",data:=.fields #[.int lo t,.int hi u,.int 1 v] }).objs.size],_,_,H,rfl,
  I1.kept (t':=tk) λ b o e=>Ma _ e,su _ lo (hi - lo).toNat,?_,λ b hb=>?_,q⟩
 ·have e1:lo+((0:Nat):Int) * 1=lo:=by simp
  have e2:(((hi - lo).toNat:Nat):Int) - ((0:Nat):Int)=Builtin.Range.rangeSize lo hi 1:=by rw [rangeSize_one];split<;>omega
  show IsRangeIter _ _ (lo+((0:Nat):Int) * 1) ((((hi - lo).toNat:Nat):Int) - ((0:Nat):Int)) 1
  rw [e1,e2];exact Mn _ rfl
 ·have e:b=(s.heap.push { cls:=.type "range",data:=.fields #[.int lo t,.int hi u,.int 1 v] }).objs.size:=by simpa using hb
  subst e;exact I1.fpOk (Mb _) (I1.hok.fresh (Mb _))
def Fx(ta:TA):TI:=λ σ H R=>ta σ H λ vs H1=>∃ j:Int,vs=[.int j]/\-(2 ^ 62)<=j/\j < 2 ^ 62/\R (Itr 0 j.toNat) H1
theorem wD{a:Expr}{ta:TA}{p pos:Pos}(hg:Gl X "range")(hm:X.mg "range"=none)(ha:PA X [a] ta)(hs:starEach [a] X.env=[(false,eval a X.env)]:=by rfl):PI X tg (.Call (.Name "range" p) [a] [] pos) (Fx ta):=by
 intro pins s σ H R I h;refine Call_ (fX I hg hm boot_range (Nm (thn (ha pos pins s σ H _ I h) λ us s1 ⟨vs,H1,I1,r1,q1⟩=>?_) hs rfl));obtain⟨j,e,q1,q2,q⟩:=q1;subst e
 cases r1 with
 | cons r rr=>
  cases rr;obtain⟨t,rfl⟩:=r;exact call_range_1 (zu I1 (by omega) (by omega) q1 q2 (by simpa using q))
def KU(wi:TI)(g:TG)(tb:TS):TS:=λ D σ H=>wi σ H λ J H1=>∃ W:Nat->Nat->St->Hp->Prop,(∃ m,W 0 m σ H1)/\∀ i m σ H,W i m σ H →
 (J.stop i H/\D.nx σ H)\/(J.go i H/\∃ N:St->Hp->Prop,(∀ σ' H',N σ' H'->∃ m',m' < m/\W (i+1) m' σ' H')/\∀ x H',J.yld i H x H'->g x σ H' λ σ2 H2=>tb { D with nx:=N,ct:=N,bk:=D.nx } σ2 H2)
def nK(fp:List Addr)(h:Heap):List (Addr × Obj):=fp.filterMap λ b=>(h.get? b).map λ o=>(b,o)
theorem fO{fp:List Addr}{h:Heap}{b:Addr}{o:Obj}(hb:b∈fp)(e:h.get? b=some o):(b,o)∈nK fp h:=List.mem_filterMap.mpr ⟨b,hb,by rw [e];rfl⟩
theorem wN{fp:List Addr}{h:Heap}{p:Addr × Obj}(hp:p∈nK fp h):p.1∈fp/\h.get? p.1=some p.2:=by
 obtain⟨b,hb,e⟩:=List.mem_filterMap.mp hp
 cases q:h.get? b with
 | none=>rw [q] at e;cases e
 | some o=>
  rw [q] at e;have e':(b,o)=p:=MU e;subst e';exact⟨hb,q⟩
theorem Inv.pinned{pins:List (Addr × Obj)}{σ:St}{H:Hp}{s:Shared}{fp:List Addr}(I:Inv X pins σ H s)(hf:∀ b∈fp,kO X pins H b)(ho:∀ b∈fp,∃ o,s.heap.get? b=some o/\∀ v,o.data ≠ .cell v):Inv X (pins++nK fp s.heap) σ H s:=
 I.pins_of λ p hp=>(MA.mp hp).elim (λ z=>I.pin p (Me _ z)) λ z=>by
  obtain⟨hb,e⟩:=wN z;obtain⟨f0,f1,f2,_⟩:=hf p.1 hb;obtain⟨o,e',d⟩:=ho p.1 hb;rw [e] at e';cases e';exact⟨e,f0,f1,f2,d⟩
theorem Inv.unpinned{pins pl:List (Addr × Obj)}{σ:St}{H:Hp}{s:Shared}(I:Inv X (pins++pl) σ H s):Inv X pins σ H s:=I.pins_of λ p hp=>I.pin p (Me _ (MJ _ hp))
theorem FV{iter:Expr}{body:List Stmt}{wi:TI}{g:TG}{tb:TS}{pos:Pos}(hp:PassesOwn (model X.prog X.w) X.A X.env X.xe)(hc:X.calm=true)(hi:PI X tg iter wi)(hg:PG X tg g)(hb:PSs X body tb)
  (hs:∀ x,foldedSetIterable iter X.env x=pure x:=by intro _;rfl):PS X (.For tg iter body [] pos) (KU wi g tb):=by
 intro pins s σ H D I h;refine wpAny_For (thn (hi pins s σ H _ I h) λ v s1 h1=>thn h1 λ itv s2 h2=>?_) hs;obtain⟨it,fp,tn,J,H2,e,I2,T,st2,f2,W,⟨m0,w0⟩,turn⟩:=h2;subst e;have stat:∀ {H':Hp},(∀ b∈fp,H' b=none)->∀ b∈fp,kO X pins H' b:=λ hn b hb=>⟨hn b hb,(f2 b hb).2⟩;refine codeAny_forLoop_any (λ n s'=>∃ i σ' H',Inv X pins σ' H' s'/\tn i s'.heap/\(∀ b∈fp,H' b=none)/\W i n σ' H') ?_ m0 ⟨0,σ,H2,I2,st2,λ b hb=>(f2 b hb).1,w0⟩;rintro n s3 ⟨i,σ3,H3,I3,st3,fr3,w3⟩
 rcases turn i n σ3 H3 w3 with ⟨stop,qn⟩|⟨go,N,hN,step⟩
 ·refine NP hp (thn (T.done X rfl rfl rfl hc i pins s3 σ3 H3 X.xe I3 (stat fr3) st3 stop) λ r s4 ⟨hr,I4⟩=>?_);subst hr;exact Ot ⟨σ3,H3,I4,qn⟩
 ·refine NP hp (thn (T.item X rfl rfl rfl hc i pins s3 σ3 H3 X.xe I3 (stat fr3) st3 go) λ r s4 ⟨u,hr,h4⟩=>?_);subst hr;refine NP hp (thn h4 λ _ s5 ⟨x,H5,I5,r5,y5,st5,fr5⟩=>?_);have I5':=I5.pinned (stat fr5) (T.obj _ _ st5);refine NP hp (thn (hg _ s5 σ3 H5 x u _ I5' r5 (step x H5 y5)) λ _ s6 ⟨σ6,H6,I6,q6⟩=>?_);refine NP hp (thn (hb _ s6 σ6 H6 _ I6 q6) λ f s7 q7=>?_)
  have again:∀ {σ7:St} {H7:Hp},Inv X (pins++nK fp s5.heap) σ7 H7 s7->N σ7 H7->∃ m,m < n/\∃ i σ' H',Inv X pins σ' H' s7/\tn i s7.heap/\(∀ b∈fp,H' b=none)/\W i m σ' H':=λ {σ7 H7} I7 n7=>by
   obtain⟨m',hm,w7⟩:=hN σ7 H7 n7;refine⟨m',hm,i+1,σ7,H7,I7.unpinned,T.keep _ _ _ st5 λ b hb o e=>(I7.pin (b,o) (Me _ (Me _ (fO hb e)))).1,λ b hb=>?_,w7⟩;obtain⟨o,e,d⟩:=T.obj _ _ st5 b hb;exact(I7.pin (b,o) (Me _ (Me _ (fO hb e)))).2.1
  cases f with
  | next=>obtain⟨σ7,H7,I7,n7⟩:=q7;exact again I7 n7
  | cont=>obtain⟨σ7,H7,I7,n7⟩:=q7;exact again I7 n7
  | brk=>obtain⟨σ7,H7,I7,q7⟩:=q7;exact⟨σ7,H7,I7.unpinned,q7⟩
  | ret v=>obtain⟨x7,σ7,H7,I7,r7,q7⟩:=q7;exact⟨x7,σ7,H7,I7.unpinned,r7,q7⟩
end
theorem AD{K:PySem.W.Frag}{a:Addr}{xs:List V}{g:TG}{tb:TS}{D:gF}{σ:St}{H:Hp}(Pv:Nat->St->Hp->Prop)(h0:Pv 0 σ H)(hl:∀ i σ H,i<=xs.length->Pv i σ H->SqL K H a xs)
  (hs:∀ i x σ H,xs[i]? = some x->Pv i σ H->g x σ H λ σ2 H2=>tb { D with nx:=Pv (i+1),ct:=Pv (i+1),bk:=D.nx } σ2 H2) (hd:∀ σ H,Pv xs.length σ H->D.nx σ H) :
  ∃ W:Nat->Nat->St->Hp->Prop,(∃ m,W 0 m σ H)/\∀ i m σ H,W i m σ H →
   ((Itl K a).stop i H/\D.nx σ H)\/((Itl K a).go i H/\∃ N:St->Hp->Prop,(∀ σ' H',N σ' H'->∃ m',m' < m/\W (i+1) m' σ' H')/\∀ x H',(Itl K a).yld i H x H'->g x σ H' λ σ2 H2=>tb { D with nx:=N,ct:=N,bk:=D.nx } σ2 H2):=by
 refine⟨λ i m σ H=>m=xs.length - i/\i<=xs.length/\Pv i σ H,⟨xs.length,by simp,MC _,h0⟩,?_⟩;rintro i m σ H ⟨rfl,hi,p⟩;have q:=hl i σ H hi p
 by_cases hlt:i < xs.length
 ·refine .inr ⟨⟨xs,xs[i],q,by simp [hlt]⟩,Pv (i+1),λ σ' H' p'=>⟨xs.length - (i+1),by omega,rfl,hlt,p'⟩,λ x H' y=>?_⟩;obtain⟨e,y⟩:=y;subst e;exact hs i x σ _ (y xs q) p
 ·have e:i=xs.length:=by omega
  subst e;exact .inl ⟨⟨xs,q,Mb _⟩,hd σ H p⟩
theorem x6{lo:Int}{n:Nat}{g:TG}{tb:TS}{D:gF}{σ:St}{H:Hp}(Pv:Nat->St->Hp->Prop)(h0:Pv 0 σ H)
  (hs:∀ i σ H,i < n->Pv i σ H->g (.int (lo+i)) σ H λ σ2 H2=>tb { D with nx:=Pv (i+1),ct:=Pv (i+1),bk:=D.nx } σ2 H2) (hd:∀ σ H,Pv n σ H->D.nx σ H) :
  ∃ W:Nat->Nat->St->Hp->Prop,(∃ m,W 0 m σ H)/\∀ i m σ H,W i m σ H →
   ((Itr lo n).stop i H/\D.nx σ H)\/((Itr lo n).go i H/\∃ N:St->Hp->Prop,(∀ σ' H',N σ' H'->∃ m',m' < m/\W (i+1) m' σ' H')/\∀ x H',(Itr lo n).yld i H x H'->g x σ H' λ σ2 H2=>tb { D with nx:=N,ct:=N,bk:=D.nx } σ2 H2):=by
 refine⟨λ i m σ H=>m=n - i/\i<=n/\Pv i σ H,⟨n,by simp,MC _,h0⟩,?_⟩;rintro i m σ H ⟨rfl,hi,p⟩
 by_cases hlt:i < n
 ·refine .inr ⟨hlt,Pv (i+1),λ σ' H' p'=>⟨n - (i+1),by omega,rfl,hlt,p'⟩,λ x H' y=>?_⟩;obtain⟨e,y⟩:=y;subst e y;exact hs i σ _ hlt p
 ·have e:i=n:=by omega
  subst e;exact .inl ⟨Mb _,hd σ H p⟩
abbrev R2:=V->V->Hp->VK->Prop
def OpR(X:Cx)(f:Value->Value->Sem Value)(r:R2):Prop:=
 ∀ (pins:List (Addr × Obj)) (s:Shared) (σ:St) (H:Hp) (x y:V) (v u:Value) (Q:VK),Inv X pins σ H s->bc x v->bc y u->r x y H Q →
  wpAny (model X.prog X.w) X.A (f v u) (EP X pins σ Q) X.xe s
def UnR(X:Cx)(f:Value->Sem Value)(r:V->Hp->VK->Prop):Prop:=
 ∀ (pins:List (Addr × Obj)) (s:Shared) (σ:St) (H:Hp) (x:V) (v:Value) (Q:VK),Inv X pins σ H s->bc x v->r x H Q →
  wpAny (model X.prog X.w) X.A (f v) (EP X pins σ Q) X.xe s
def bO(X:Cx)(f:Value)(r:List V->Hp->VK->Prop):Prop:=
 ∀ (pins:List (Addr × Obj)) (s:Shared) (σ:St) (H:Hp) (xs:List V) (us:List Value) (Q:VK),Inv X pins σ H s->br xs us->r xs H Q →
  wpAny (model X.prog X.w) X.A (call f us) (EP X pins σ Q) X.xe s
def tOp(r:R2)(ta tb:TE):TE:=λ σ H Q=>ta σ H λ x H1=>tb σ H1 λ y H2=>r x y H2 Q
def tUn(r:V->Hp->VK->Prop)(ta:TE):TE:=λ σ H Q=>ta σ H λ x H1=>r x H1 Q
def rI(C:Int->Int->Prop)(g:Int->Int->V):R2:=λ x y H Q=>∃ i j,x=.int i/\y=.int j/\C i j/\Q (g i j) H
def rI0(g:Int->Int->V):R2:=λ x y H Q=>∃ i j,x=.int i/\y=.int j/\Q (g i j) H
def rU(g:Int->V):V->Hp->VK->Prop:=λ x H Q=>∃ i,x=.int i/\Q (g i) H
section
variable {X:Cx}{a b c:Expr}{ta tb tc:TE}{pos:Pos}
theorem JC(ha:PE X a ta)(hb:PE X b tb){pins:List (Addr × Obj)}{s:Shared}{σ:St}{H:Hp}{R:V->V->Hp->Prop}(I:Inv X pins σ H s)
  (h:ta σ H λ x H1=>tb σ H1 λ y H2=>R x y H2) {Q:Value->Shared->Prop} {f:Value->Value->Sem Value}
  (hf:∀ v u s2 x y H2,Inv X pins σ H2 s2->bc x v->bc y u->R x y H2->wpAny (model X.prog X.w) X.A (f v u) Q X.xe s2) :
  wpAny (model X.prog X.w) X.A (eval a X.env) (λ v s₁=>wpAny (model X.prog X.w) X.A (eval b X.env) (λ u s₂=>wpAny (model X.prog X.w) X.A (f v u) Q X.xe s₂) X.xe s₁) X.xe s:=by
 refine thn (ha pins s σ H _ I h) λ v s1 ⟨x,H1,I1,r1,q1⟩=>?_;refine thn (hb pins s1 σ H1 _ I1 q1) λ u s2 ⟨y,H2,I2,r2,q2⟩=>?_;exact hf v u s2 x y H2 I2 r1 r2 q2
theorem eV{op:Operator}{r:R2}(ho:OpR X (binaryOp op) r)(ha:PE X a ta)(hb:PE X b tb):PE X (.BinOp a op b pos) (tOp r ta tb):=by
 intro pins s σ H Q I h;exact wpAny_BinOp (JC ha hb I h λ v u s2 x y H2 I2 rx ry q=>ho pins s2 σ H2 x y v u Q I2 rx ry q)
theorem uw{op:UnaryOp}{r:V->Hp->VK->Prop}(ho:UnR X (unaryOp op) r)(ha:PE X a ta):PE X (.UnaryOp op a pos) (tUn r ta):=by
 intro pins s σ H Q I h;exact UnaryOp_ (thn (ha pins s σ H _ I h) λ v s1 ⟨x,H1,I1,r1,q1⟩=>ho pins s1 σ H1 x v Q I1 r1 q1)
theorem opI{f:Value->Value->Sem Value}{C:Int->Int->Prop}{g:Int->Int->Int}
  (rule:∀ (i j:Int) (t u:Tok) (s:Shared) (Q:Value->Shared->Prop) (E:Value->Shared->Prop),C i j->Q (.int (g i j) s.toks) { s with toks:=s.toks+1 }->wpAny (model X.prog X.w) X.A (f (.int i t) (.int j u)) Q E s) :
  OpR X f (rI C λ i j=>.int (g i j)):=by
 intro pins s σ H x y v u Q I rx ry h;obtain⟨i,j,rfl,rfl,hc,q⟩:=h;obtain⟨t,rfl⟩:=rx;obtain⟨t',rfl⟩:=ry;exact rule i j t t' s _ _ hc ⟨.int (g i j),H,I.tok _,⟨_,rfl⟩,q⟩
theorem K3{f:Value->Value->Sem Value}{g:Int->Int->Int}
  (rule:∀ (i j:Int) (t u:Tok) (s:Shared) (Q:Value->Shared->Prop) (E:Value->Shared->Prop),Q (.int (g i j) s.toks) { s with toks:=s.toks+1 }->wpAny (model X.prog X.w) X.A (f (.int i t) (.int j u)) Q E s) :
  OpR X f (rI0 λ i j=>.int (g i j)):=by
 intro pins s σ H x y v u Q I rx ry h;obtain⟨i,j,rfl,rfl,q⟩:=h;obtain⟨t,rfl⟩:=rx;obtain⟨t',rfl⟩:=ry;exact rule i j t t' s _ _ ⟨.int (g i j),H,I.tok _,⟨_,rfl⟩,q⟩
theorem Iw{f:Value->Value->Sem Value}{g:Int->Int->Bool}
  (rule:∀ (i j:Int) (t u:Tok) (s:Shared) (Q:Value->Shared->Prop) (E:Value->Shared->Prop),Q (.bool (g i j)) s->wpAny (model X.prog X.w) X.A (f (.int i t) (.int j u)) Q E s) :
  OpR X f (rI0 λ i j=>.bl (g i j)):=by
 intro pins s σ H x y v u Q I rx ry h;obtain⟨i,j,rfl,rfl,q⟩:=h;obtain⟨t,rfl⟩:=rx;obtain⟨t',rfl⟩:=ry;exact rule i j t t' s _ _ ⟨.bl (g i j),H,I,rfl,q⟩
def JG(i j:Int):Prop:=0 < j/\j < 1073741824
def JF(i j:Int):Prop:=0<=j/\j<=1000000/\i.natAbs < 2 ^ 64
def uf(i j:Int):Prop:=(-(2 ^ 64) < i/\i < 2 ^ 64)\/(-(2 ^ 64) < j/\j < 2 ^ 64)
theorem uf.ok{i j:Int}(h:uf i j):IntMulOk i j:=by
 rcases h with ⟨h1,h2⟩|⟨h1,h2⟩
 ·exact .of_left (intBits_le_64 h1 h2)
 ·exact .of_right (intBits_le_64 h1 h2)
theorem qL:OpR X (binaryOp .Add) (rI0 λ i j=>.int (i+j)):=K3 λ _ _ _ _ _ _ _ q=>add_int q
theorem Gj:OpR X (binaryOp .Sub) (rI0 λ i j=>.int (i - j)):=K3 λ _ _ _ _ _ _ _ q=>sub_int q
theorem iB:OpR X (binaryOp .Mult) (rI uf λ i j=>.int (i * j)):=opI λ _ _ _ _ _ _ _ hc q=>mul_int q hc.ok
theorem CT:OpR X (binaryOp .FloorDiv) (rI JG λ i j=>.int (i / j)):=opI λ i j _ _ _ _ _ hc q=>by
 have h1:(0:Int) < j:=hc.1;have h2:j < 1073741824:=hc.2;exact floordiv_int (by omega) (by rw [Int.fdiv_eq_ediv_of_nonneg i (by omega)];exact q) (.inl (PyProof.noPylong_small (by omega)))
theorem i9:OpR X (binaryOp .Mod) (rI (λ _ j=>0 < j) λ i j=>.int (i % j)):=opI λ i j _ _ _ _ _ hc q=>by
 have h1:(0:Int) < j:=hc;exact mod_int' (by omega) (by rw [Int.fmod_eq_emod_of_nonneg i (by omega)];exact q)
theorem Gn:OpR X (binaryOp .Pow) (rI JF λ i j=>.int (i ^ j.toNat)):=opI λ _ _ _ _ _ _ _ hc q=>pow_int_small hc.1 hc.2.1 hc.2.2 q
theorem unI{f:Value->Sem Value}{g:Int->Int}
  (rule:∀ (i:Int) (t:Tok) (s:Shared) (Q:Value->Shared->Prop) (E:Value->Shared->Prop),Q (.int (g i) s.toks) { s with toks:=s.toks+1 }->wpAny (model X.prog X.w) X.A (f (.int i t)) Q E s) :
  UnR X f (rU λ i=>.int (g i)):=by
 intro pins s σ H x v Q I rx h;obtain⟨i,rfl,q⟩:=h;obtain⟨t,rfl⟩:=rx;exact rule i t s _ _ ⟨.int (g i),H,I.tok _,⟨_,rfl⟩,q⟩
theorem FG:UnR X (unaryOp .USub) (rU λ i=>.int (-i)):=unI λ _ _ _ _ _ q=>neg_int q
end
def ER:V->V->Bool
 | .non,.non=>true | .non,.int _=>true | .int _,.non=>true | .non,.bl _=>true | .bl _,.non=>true | .non,.str _=>true | .str _,.non=>true
 | .int _,.int _=>true | .bl _,.bl _=>true | .str _,.str _=>true | .byt _,.byt _=>true
 | .int _,.str _=>true | .str _,.int _=>true | .bl _,.str _=>true | .str _,.bl _=>true
 | _,_=>false
def rEq:R2:=λ x y H Q=>ER x y=true/\Q (.bl (decide (x=y))) H
def rNe:R2:=λ x y H Q=>ER x y=true/\Q (.bl (!decide (x=y))) H
theorem vU{i j:Int}:decide (V.int i=V.int j)=(i == j):=by
 rw [N6];simp
theorem BC{i j:Bool}:decide (V.bl i=V.bl j)=(i == j):=by
 rw [N6];simp
theorem vT{i j:Str}:decide (V.str i=V.str j)=(i == j):=by
 rw [N6];simp
theorem vV{i j:Array UInt8}:decide (V.byt i=V.byt j)=(i.toList == j.toList):=by
 rw [N6];cases i;cases j;simp
section
variable {X:Cx}{a b c:Expr}{ta tb tc:TE}{pos:Pos}
theorem aI{pins:List (Addr × Obj)}{σ:St}{H:Hp}{s:Shared}{Q:VK}{k k':Bool}(I:Inv X pins σ H s)(q:Q (.bl k) H)(e:k=k'):EP X pins σ Q (.bool k') s:=by
 subst e;exact⟨.bl k,H,I,rfl,q⟩
theorem JO:OpR X (compareOp .Eq) rEq:=by
 intro pins s σ H x y v u Q I rx ry h;obtain⟨hs,q⟩:=h
 cases x with
 | non=>
  cases rx
  cases y with
  | non=>cases ry;exact PySem.EqNone.eq_none_none (aI I q (by simp))
  | bl j=>cases ry;exact PySem.EqNone.eq_none_bool (aI I q (by simp))
  | int j=>obtain⟨t',rfl⟩:=ry;exact PySem.EqNone.eq_none_int (aI I q (by simp))
  | str j=>obtain⟨t',rfl⟩:=ry;exact PySem.EqNone.eq_none_str (aI I q (by simp))
  | _=>exact absurd (show false=true from hs) Mj
 | bl i=>
  cases rx
  cases y with
  | non=>cases ry;exact PySem.EqNone.eq_bool_none (aI I q (by simp))
  | bl j=>cases ry;exact eq_bool (aI I q BC)
  | str j=>obtain⟨t',rfl⟩:=ry;exact PySem.EqMixed.eq_bool_str (aI I q (by simp))
  | _=>exact absurd (show false=true from hs) Mj
 | int i=>
  obtain⟨t,rfl⟩:=rx
  cases y with
  | non=>cases ry;exact PySem.EqNone.eq_int_none (aI I q (by simp))
  | int j=>obtain⟨t',rfl⟩:=ry;exact eq_int (aI I q vU)
  | str j=>obtain⟨t',rfl⟩:=ry;exact PySem.EqMixed.eq_int_str (aI I q (by simp))
  | _=>exact absurd (show false=true from hs) Mj
 | str i=>
  obtain⟨t,rfl⟩:=rx
  cases y with
  | non=>cases ry;exact PySem.EqNone.eq_str_none (aI I q (by simp))
  | bl j=>cases ry;exact PySem.EqMixed.eq_str_bool (aI I q (by simp))
  | int j=>obtain⟨t',rfl⟩:=ry;exact PySem.EqMixed.eq_str_int (aI I q (by simp))
  | str j=>obtain⟨t',rfl⟩:=ry;exact eq_str (aI I q vT)
  | _=>exact absurd (show false=true from hs) Mj
 | byt i=>
  obtain⟨t,rfl⟩:=rx
  cases y with
  | byt j=>obtain⟨t',rfl⟩:=ry;exact W.eq_bytes (aI I q vV)
  | _=>exact absurd (show false=true from hs) Mj
 | _=>cases y<;>exact absurd (show false=true from hs) Mj
theorem JL:OpR X (compareOp .NotEq) rNe:=by
 intro pins s σ H x y v u Q I rx ry h;obtain⟨hs,q⟩:=h
 cases x with
 | non=>
  cases rx
  cases y with
  | non=>cases ry;exact PySem.EqNone.ne_none_none (aI I q (by simp))
  | bl j=>cases ry;exact PySem.EqNone.ne_none_bool (aI I q (by simp))
  | int j=>obtain⟨t',rfl⟩:=ry;exact PySem.EqNone.ne_none_int (aI I q (by simp))
  | str j=>obtain⟨t',rfl⟩:=ry;exact PySem.EqNone.ne_none_str (aI I q (by simp))
  | _=>exact absurd (show false=true from hs) Mj
 | bl i=>
  cases rx
  cases y with
  | non=>cases ry;exact PySem.EqNone.ne_bool_none (aI I q (by simp))
  | bl j=>cases ry;exact ne_bool (aI I q (NI not BC))
  | str j=>obtain⟨t',rfl⟩:=ry;exact PySem.EqMixed.ne_bool_str (aI I q (by simp))
  | _=>exact absurd (show false=true from hs) Mj
 | int i=>
  obtain⟨t,rfl⟩:=rx
  cases y with
  | non=>cases ry;exact PySem.EqNone.ne_int_none (aI I q (by simp))
  | int j=>obtain⟨t',rfl⟩:=ry;exact ne_int (aI I q (NI not vU))
  | str j=>obtain⟨t',rfl⟩:=ry;exact PySem.EqMixed.ne_int_str (aI I q (by simp))
  | _=>exact absurd (show false=true from hs) Mj
 | str i=>
  obtain⟨t,rfl⟩:=rx
  cases y with
  | non=>cases ry;exact PySem.EqNone.ne_str_none (aI I q (by simp))
  | bl j=>cases ry;exact PySem.EqMixed.ne_str_bool (aI I q (by simp))
  | int j=>obtain⟨t',rfl⟩:=ry;exact PySem.EqMixed.ne_str_int (aI I q (by simp))
  | str j=>obtain⟨t',rfl⟩:=ry;exact ne_str (aI I q (NI not vT))
  | _=>exact absurd (show false=true from hs) Mj
 | byt i=>
  obtain⟨t,rfl⟩:=rx
  cases y with
  | byt j=>obtain⟨t',rfl⟩:=ry;exact W.ne_bytes (aI I q (NI not vV))
  | _=>exact absurd (show false=true from hs) Mj
 | _=>cases y<;>exact absurd (show false=true from hs) Mj
theorem Fg:OpR X (compareOp .Lt) (rI0 λ i j=>.bl (decide (i < j))):=Iw λ _ _ _ _ _ _ _ q=>lt_int q
theorem JM:OpR X (compareOp .LtE) (rI0 λ i j=>.bl (decide (i<=j))):=Iw λ _ _ _ _ _ _ _ q=>le_int q
theorem Fh:OpR X (compareOp .Gt) (rI0 λ i j=>.bl (decide (j < i))):=Iw λ _ _ _ _ _ _ _ q=>gt_int q
theorem JN:OpR X (compareOp .GtE) (rI0 λ i j=>.bl (decide (j<=i))):=Iw λ _ _ _ _ _ _ _ q=>ge_int q
theorem Gr:OpR X (compareOp .Is) (λ x y H Q=>y=.non/\Q (.bl (decide (x=.non))) H):=by
 intro pins s σ H x y v u Q I rx ry h;obtain⟨rfl,q⟩:=h;cases ry;refine is_none_gen (aI I q ?_)
 cases x<;>first
  | (cases rx;rfl)
  | (obtain⟨t,rfl⟩:=rx;rfl)
theorem CQ:OpR X (compareOp .IsNot) (λ x y H Q=>y=.non/\Q (.bl (!decide (x=.non))) H):=by
 intro pins s σ H x y v u Q I rx ry h;obtain⟨rfl,q⟩:=h;cases ry;refine isnot_none_gen (aI I q ?_)
 cases x<;>first
  | (cases rx;rfl)
  | (obtain⟨t,rfl⟩:=rx;rfl)
def Fw:HO->Bool
 | .lst _=>true
 | .ins _ _ _=>true
 | _=>false
theorem OpR.or{f:Value->Value->Sem Value}{r r':R2}(h:OpR X f r)(h':OpR X f r'):OpR X f (λ x y H Q=>r x y H Q\/r' x y H Q):=by
 intro pins s σ H x y v u Q I rx ry q
 rcases q with q|q
 ·exact h pins s σ H x y v u Q I rx ry q
 ·exact h' pins s σ H x y v u Q I rx ry q
theorem aw(b:Expr){op:CmpOp}(h:op ≠ .In:=by decide)(h2:op ≠ .NotIn:=by decide):behindInMarks op b=false:=by
 have e1:(op == CmpOp.In)=false:=by cases op<;>first|rfl|exact absurd rfl h
 have e2:(op == CmpOp.NotIn)=false:=by cases op<;>first|rfl|exact absurd rfl h2
 cases b<;>simp [behindInMarks,e1,e2]
theorem lW{op:CmpOp}{r:R2}(ho:OpR X (compareOp op) r)(ha:PE X a ta)(hb:PE X b tb)(hm:behindInMarks op b=false):PE X (.Compare a [op] [b] pos) (tOp r ta tb):=by
 intro pins s σ H Q I h;exact wpAny_Compare1 (JC ha hb I h λ v u s2 x y H2 I2 rx ry q=>ho pins s2 σ H2 x y v u Q I2 rx ry q) hm
def yK(t:TE):TT:=λ σ H Q=>t σ H λ x H'=>∃ k,x=.bl k/\Q k H'
theorem pY{op:CmpOp}{r:R2}(ho:OpR X (compareOp op) r)(ha:PE X a ta)(hb:PE X b tb)(hm:behindInMarks op b=false):PT X (.Compare a [op] [b] pos) (yK (tOp r ta tb)):=by
 intro pins s σ H Q I h
 refine wpAny_isTrue_Compare1 (thn (ha pins s σ H _ I h) λ v s1 ⟨x,H1,I1,r1,q1⟩=>thn (hb pins s1 σ H1 _ I1 q1) λ u s2 ⟨y,H2,I2,r2,q2⟩=>
  thn (ho pins s2 σ H2 x y v u _ I2 r1 r2 q2) λ c s3 ⟨z,H3,I3,r3,k,e,q3⟩=>?_) hm
 subst e;cases r3;exact M8 ⟨H3,I3,q3⟩
def uL(r r':R2)(ta tb tc:TE):TE:=λ σ H Q=>ta σ H λ x H1=>tb σ H1 λ y H2=>r x y H2 λ z H3=>∃ k,z=.bl k /\
 (if k=true then tc σ H3 λ w' H4=>r' y w' H4 Q else Q (.bl false) H3)
theorem zG{op op':CmpOp}{r r':R2}(ho:OpR X (compareOp op) r)(ho':OpR X (compareOp op') r')(ha:PE X a ta)(hb:PE X b tb)(hc:PE X c tc)
  (hm:lastMarks [op,op'] [b,c]=false:=by with_unfolding_all rfl):PE X (.Compare a [op,op'] [b,c] pos) (uL r r' ta tb tc):=by
 intro pins s σ H Q I h
 refine Compare_chain (thn (ha pins s σ H _ I h) λ v s1 ⟨x,H1,I1,r1,q1⟩=>chain_link (thn (hb pins s1 σ H1 _ I1 q1) λ u s2 ⟨y,H2,I2,r2,q2⟩=>
  thn (ho pins s2 σ H2 x y v u _ I2 r1 r2 q2) λ d s3 ⟨z,H3,I3,r3,k,e,q3⟩=>?_)) hm
 subst e;cases r3;refine M8 ?_
 cases k with
 | false=>exact ite_ff ⟨.bl false,H3,I3,rfl,q3⟩
 | true=>exact ite_tt (chain_last (thn (hc pins s3 σ H3 _ I3 q3) λ w' s4 ⟨z',H4,I4,r4,q4⟩=>ho' pins s4 σ H4 y z' u w' Q I4 r2 r4 q4))
theorem zy{op op':CmpOp}{r r':R2}(ho:OpR X (compareOp op) r)(ho':OpR X (compareOp op') r')(ha:PE X a ta)(hb:PE X b tb)(hc:PE X c tc)
  (hm:lastMarks [op,op'] [b,c]=false:=by with_unfolding_all rfl):PT X (.Compare a [op,op'] [b,c] pos) (yK (uL r r' ta tb tc)):=by
 intro pins s σ H Q I h
 refine isTrue_chain (thn (ha pins s σ H _ I h) λ v s1 ⟨x,H1,I1,r1,q1⟩=>test_link (thn (hb pins s1 σ H1 _ I1 q1) λ u s2 ⟨y,H2,I2,r2,q2⟩=>
  thn (ho pins s2 σ H2 x y v u _ I2 r1 r2 q2) λ d s3 ⟨z,H3,I3,r3,k,e,q3⟩=>?_)) hm
 subst e;cases r3;refine M8 ?_
 cases k with
 | false=>
  obtain⟨k',e',q'⟩:=q3;cases e';exact ite_ff ⟨H3,I3,q'⟩
 | true=>
  refine ite_tt (test_last (thn (hc pins s3 σ H3 _ I3 q3) λ w' s4 ⟨z',H4,I4,r4,q4⟩=>thn (ho' pins s4 σ H4 y z' u w' _ I4 r2 r4 q4) λ d' s5 ⟨z2,H5,I5,r5,k2,e2,q5⟩=>?_));subst e2;cases r5;exact M8 ⟨H5,I5,q5⟩
theorem qN:(sizeLine:Nat) < 2 ^ 63:=by rw [sizeLine_eq];decide
theorem uq{x:V}{us:List Value}(r:br [x] us):∃ u,us=[u]/\bc x u:=by
 cases r with
 | cons r1 r2=>cases r2;exact⟨_,rfl,r1⟩
theorem yJ{x y:V}{us:List Value}(r:br [x,y] us):∃ u w',us=[u,w']/\bc x u/\bc y w':=by
 cases r with
 | cons r1 r2=>
  cases r2 with
  | cons r3 r4=>cases r4;exact⟨_,_,rfl,r1,r3⟩
theorem yj(hc:X.calm=true):bO X (.builtin "max") (λ xs H Q=>∃ i j,xs=[.int i,.int j]/\Q (.int (if j > i then j else i)) H):=by
 intro pins s σ H xs us Q I r h;obtain⟨i,j,rfl,q⟩:=h;obtain⟨u,w',rfl,⟨t,rfl⟩,⟨t',rfl⟩⟩:=yJ r;refine max_two_ints (I.ok.hd hc) λ h' tk k=>⟨_,H,I.kept k,?_,q⟩
 by_cases hj:j > i
 ·rw [My hj,My hj];exact⟨_,rfl⟩
 ·rw [Mw hj,Mw hj];exact⟨_,rfl⟩
theorem yh(hc:X.calm=true):bO X (.builtin "min") (λ xs H Q=>∃ i j,xs=[.int i,.int j]/\Q (.int (if j < i then j else i)) H):=by
 intro pins s σ H xs us Q I r h;obtain⟨i,j,rfl,q⟩:=h;obtain⟨u,w',rfl,⟨t,rfl⟩,⟨t',rfl⟩⟩:=yJ r;refine min_two_ints (I.ok.hd hc) λ h' tk k=>⟨_,H,I.kept k,?_,q⟩
 by_cases hj:j < i
 ·rw [My hj,My hj];exact⟨_,rfl⟩
 ·rw [Mw hj,Mw hj];exact⟨_,rfl⟩
theorem ym:bO X (.type "int") (λ xs H Q=>(∃ i,xs=[.int i]/\Q (.int i) H)\/∃ k,xs=[.bl k]/\Q (.int (if k then 1 else 0)) H):=by
 intro pins s σ H xs us Q I r h
 rcases h with ⟨i,rfl,q⟩|⟨k,rfl,q⟩
 ·obtain⟨u,rfl,t,rfl⟩:=uq r;exact call_int_int ⟨.int i,H,I,⟨_,rfl⟩,q⟩
 ·obtain⟨u,rfl,r1⟩:=uq r;cases r1;exact call_int_bool ⟨.int (if k then 1 else 0),H,I.tok _,⟨_,rfl⟩,q⟩
end
structure BO(h:Heap)(x dx C:Addr)(mA:Str->Option Value):Prop where
 obj:h.get? x=some (W.instObj C dx)
 ns:h.Ns1 dx mA
 ne:dx ≠ x
theorem jx{h:Heap}{dx:Addr}{mA:Str->Option Value}(n:h.Ns1 dx mA):∃ od,h.get? dx=some od/\∀ name,W.lookIn name od=some (mA name):=by
 obtain⟨o,es,ep,ho,hd,hk,_,hm⟩:=n;refine⟨o,ho,λ name=>?_⟩;have e:=hm name;unfold nsFind findBy at e;rw [←Array.find?_toList] at e;unfold W.lookIn;rw [hd];dsimp only;split
 ·rename_i y q;rw [q] at e;exact NI some e
 ·rename_i q;rw [q] at e
  have a:es.toList.any (·.refKey)=false:=by
   rw [List.any_eq_false];intro y hy;obtain⟨z,t,hkey⟩:=hk y (Array.mem_toList_iff.mp hy);simp [DictEntry.refKey,hkey]
  have a':¬ es.toList.any (·.refKey)=true:=by rw [a];exact Mj
  rw [Mw a'];exact NI some e
theorem BO.look{h:Heap}{x dx C:Addr}{mA:Str->Option Value}(I:BO h x dx C mA):∃ od,W.InstAt h x (W.instObj C dx) C (some od)/\∀ name,W.lookIn name od=some (mA name):=
 let ⟨od,ho,hl⟩:=jx I.ns
 ⟨od,⟨I.obj,rfl,rfl,ho⟩,hl⟩
section
variable {prog:Program}{w:World}{A:Around}{E:Value->Shared->Prop}{s:Shared}{K:PySem.W.Frag}{x dx C f:Addr}{mA:Str->Option Value}{name:Str}{v:Value}
theorem Ek{expr:Bool}{Q:Value->Shared->Prop}(X:K.In s.heap)(I:BO s.heap x dx C mA)(hg:W.plainGet K C name=true)(hh:W.hasDictIn K C=true)
  (ha:W.findIn K (.ref C) name=some none) (hv:mA name=some v) (hv':W.handedIn v=true) (h:Q v { s with toks:=s.toks+1 }) :
  wpAny (model prog w) A (getAttr (.ref x) name expr) Q E s:=by
 obtain⟨od,J,hl⟩:=I.look;exact W.get_value X J (W.plainGet_of hg).1 (W.findObj_own hh ha rfl (by rw [hl,hv])) hv' h
theorem Aw{pl:Sem Bool}{Q:Value × List Value->Shared->Prop}(X:K.In s.heap)(I:BO s.heap x dx C mA)(hg:W.plainGet K C name=true)
  (hf:W.findIn K (.ref C) name=some (some (.ref f))) (ht:W.isFn K (.ref f)=true) (hv:mA name=none) (h:Q (.ref f,[.ref x]) s) :
  wpAny (model prog w) A (getMethod (.ref x) name pl) Q E s:=by
 obtain⟨od,J,hl⟩:=I.look;exact W.method_fn X J (W.plainGet_of hg).1 (W.plainGet_of hg).2 hf (NY.mp ht) (by show (W.lookIn name od).map (·.isSome)=some false;rw [hl,hv];rfl) h
theorem Cu{ns:List Str}{Q:Unit->Shared->Prop}(X:K.In s.heap)(I:BO s.heap x dx C mA)
  (hs:W.findIn K (.ref C) "__setattr__"=some (some (.builtin "object.__setattr__"))) (hp:W.plainOver K C=true) (ht:W.takerIn K C name=some none) (hh:W.hasDictIn K C=true)
  (hw:PySem.Within mA ns) (hsz:ns.length<=sizeLine)
  (h:∀ h',BO h' x dx C (λ y=>if y=name then some v else mA y)->Heap.SameBut dx s.heap h'->Q () { s with heap:=h',toks:=s.toks+2 }) :
  wpAny (model prog w) A (setAttr (.ref x) name v) Q E s:=by
 obtain⟨od,J,hl⟩:=I.look;refine W.set_plain X J hs (W.osa_open (s:={ s with toks:=s.toks+1 }) (r:=none) X J hp ht λ b=>?_);obtain⟨cd,hc,hd'⟩:=W.any_some hh;have hx:s.heap.get? x=some ⟨.ref C,some dx,.plain,#[]⟩:=I.obj;refine L7 (Mf (L7 (L7 (wpAny_loadPart hx (L7 (W.Looks.here (s:={ s with toks:=s.toks+1 }) (W.looks_clsIn X hc) ?_))))));rw [hd'];refine Mf (a:=some dx) (L7 (Mf (L7 ?_)));refine wpAny_nsSet1 (s:={ s with toks:=s.toks+1 }) I.ns λ h' hn2 hs2=>?_;obtain⟨oD,esD,epD,hoD,hdD,hcD⟩:=hn2.count (PySem.Within.cons name v hw);refine L7 (wpAny_lookBehind hoD (by rw [hdD];exact pastItsLine_dict (MQ hcD (by rw [Nw];omega))) ?_);exact Mf (h _ ⟨(hs2.2 _ (NA I.ne)).trans I.obj,hn2,I.ne⟩ hs2)
theorem zP{R:Result->Shared->Prop}{vs:List Value}{kw:List (Str × Value)}(X:K.In s.heap)(hm:W.makesIn K C=true)
  (hi:W.findIn K (.ref C) "__init__"=some (some (.ref f))) (hf:W.typeIn K (.ref f)=some (.type "function"))
  (h:codeAny (model prog w) (A.under (.builtin "type.__call__" ⟨.ref C::vs,kw⟩)) (.call (.ref f) ⟨.ref (s.heap.objs.size+1)::vs,kw⟩) (W.InitBack (s.heap.objs.size+1) R)
   { s with heap:=(s.heap.push W.emptyDict).push (W.instObj C s.heap.objs.size) }) :
  codeAny (model prog w) A (.call (.ref C) ⟨vs,kw⟩) R s:=by
 obtain⟨hh,g,d,t,os⟩:=s;exact W.make_core (W.makes_of X hm) (W.looks_findIn X hi) (λ self=>W.bind_fn X self hf) (.inl rfl) h
theorem wW{R:Result->Shared->Prop}(X:K.In s.heap)(hm:W.makesIn K C=true)
  (hi:W.findIn K (.ref C) "__init__"=some (some (.builtin "object.__init__")))
  (hb:∀ self,W.Looks (model prog w) s.heap (bindSpecial (.builtin "object.__init__") self) (.builtin "object.__init__",[self]))
  (h:codeAny (model prog w) (A.under (.builtin "type.__call__" ⟨[.ref C],[]⟩)) (.call (.builtin "object.__init__") ⟨[.ref (s.heap.objs.size+1)],[]⟩) (W.InitBack (s.heap.objs.size+1) R)
   { s with heap:=(s.heap.push W.emptyDict).push (W.instObj C s.heap.objs.size) }) :
  codeAny (model prog w) A (.call (.ref C) ⟨[],[]⟩) R s:=by
 obtain⟨hh,g,d,t,os⟩:=s;exact W.make_core (W.makes_of X hm) (W.looks_findIn X hi) hb (.inr ⟨rfl,rfl⟩) h
end
def fD(f:Str)(v:V):List (Str × V)->List (Str × V)
 | []=>[(f,v)]
 | (g,x)::r=>if g=f then (g,v)::r else (g,x)::fD f v r
theorem aM(f g:Str)(v:V):∀ fs:List (Str × V),(fD f v fs).lookup g=if g=f then some v else fs.lookup g
 | []=>by
  show List.lookup g [(f,v)]=_
  by_cases h:g=f
  ·have hb:(g == f)=true:=NY.mpr h;simp only [List.lookup,hb,My h]
  ·have hb:(g == f)=false:=Nz.mpr h;simp only [List.lookup,hb,Mw h]
 | (k,x)::r=>by
  have ih:=aM f g v r;rw [show fD f v ((k,x)::r)=(if k=f then (k,v)::r else (k,x)::fD f v r) from rfl]
  by_cases hk:k=f
  ·rw [My hk]
   by_cases h:g=k
   ·have hb:(g == k)=true:=NY.mpr h;simp only [List.lookup,hb,My (h.trans hk)]
   ·have hb:(g == k)=false:=Nz.mpr h;simp only [List.lookup,hb,Mw (λ e:g=f=>h (e.trans hk.symm))]
  ·rw [Mw hk]
   by_cases h:g=k
   ·have hb:(g == k)=true:=NY.mpr h;simp only [List.lookup,hb,Mw (λ e:g=f=>hk (h.symm.trans e))]
   ·have hb:(g == k)=false:=Nz.mpr h;simp only [List.lookup,hb];exact ih
theorem jy(f:Str)(v:V):∀ fs:List (Str × V),f∈(fD f v fs).map (·.1)/\∀ g,g∈fs.map (·.1)->g∈(fD f v fs).map (·.1)
 | []=>⟨by simp [fD],λ g h=>by simp at h⟩
 | (k,x)::r=>by
  obtain⟨i1,i2⟩:=jy f v r;rw [show fD f v ((k,x)::r)=(if k=f then (k,v)::r else (k,x)::fD f v r) from rfl]
  by_cases hk:k=f
  ·rw [My hk];subst hk;exact⟨by simp,λ g h=>by simpa using h⟩
  ·rw [Mw hk];refine⟨?_,λ g h=>?_⟩
   ·rw [Nj];exact Mp _ i1
   ·rw [Nj] at h ⊢
    rcases ML.mp h with e|e
    ·exact ML.mpr (.inl e)
    ·exact Mp _ (i2 g e)
theorem jI(f:Str)(v:V):∀ fs:List (Str × V),(fD f v fs).length<=fs.length+1
 | []=>by simp [fD]
 | (k,x)::r=>by
  have ih:=jI f v r;rw [show fD f v ((k,x)::r)=(if k=f then (k,v)::r else (k,x)::fD f v r) from rfl]
  by_cases hk:k=f
  ·rw [My hk,Nw,Nw];omega
  ·rw [Mw hk,Nw,Nw];omega
theorem nA.some_of{v:V}{o:Option Value}(r:nA (some v) o):∃ u,o=some u/\bc v u:=by
 cases o with
 | none=>exact(show False from r).elim
 | some u=>exact⟨u,rfl,r⟩
theorem nA.none_of{o:Option Value}(r:nA none o):o=none:=by
 cases o with
 | none=>rfl
 | some u=>exact(show False from r).elim
theorem oj{v:V}{u:Value}(r:bc v u):W.handedIn u=true:=by
 cases v with
 | non=>cases (show u=Value.none from r);rfl
 | bl b=>cases (show u=Value.bool b from r);rfl
 | int i=>obtain⟨t,e⟩:=(show ∃ t,u=Value.int i t from r);cases e;rfl
 | str x=>obtain⟨t,e⟩:=(show ∃ t,u=Value.str x t from r);cases e;rfl
 | byt b=>obtain⟨t,e⟩:=(show ∃ t,u=Value.bytes b t from r);cases e;rfl
 | flt b=>obtain⟨t,e⟩:=(show ∃ t,u=Value.float b t from r);cases e;rfl
 | ref a=>cases (show u=Value.ref a from r);rfl
 | ty n=>cases (show u=Value.type n from r);rfl
section
variable {P:Program}{w:World}{H H':Hp}{h h':Heap}{a C dx:Addr}{fs fs':List (Str × V)}
theorem lZ(hok:HOk P w H h)(e:H a=some (.ins C dx fs)):∃ mA,BO h a dx C mA/\(∀ f,nA (fs.lookup f) (mA f))/\PySem.Within mA (fs.map (·.1))/\fs.length<=1000/\H dx=some (.own a):=by
 obtain⟨d,z,ne,ob,mA,n,r,q⟩:=(show aV P w H h a (.ins C dx fs) from hok a _ e);exact⟨mA,⟨ob,n,ne⟩,r,q,z,d⟩
end
structure Cls(K:W.Frag)(C:Addr):Prop where
 pg:W.plainGet K C Str.empty=true
 hd:W.hasDictIn K C=true
 po:W.plainOver K C=true
 sa:W.findIn K (.ref C) "__setattr__"=some (some (.builtin "object.__setattr__"))
theorem Cls.get{K:W.Frag}{C:Addr}(c:Cls K C)(f:Str):W.plainGet K C f=true:=c.pg
def bh(K:W.Frag)(C:Addr)(f:Str):Prop:=W.findIn K (.ref C) f=some none
theorem bh.taker{K:W.Frag}{C:Addr}{f:Str}(n:bh K C f):W.takerIn K C f=some none:=by
 unfold W.takerIn;rw [show W.findIn K (.ref C) f=some none from n];rfl
structure kM(K:W.Frag)(C:Addr)(m:Str)(f:Addr):Prop where
 at_:W.findIn K (.ref C) m=some (some (.ref f))
 fn:W.isFn K (.ref f)=true
 kp:W.keepIn K (.ref f)=true
section
variable {X:Cx}{pins:List (Addr × Obj)}{σ:St}{H:Hp}{s:Shared}{a C dx:Addr}{fs:List (Str × V)}{f:Str}{v:V}{A:Around}{E:Value->Shared->Prop}
theorem tO{b:Bool}{Q:Value->Shared->Prop}(I:Inv X pins σ H s)(e:H a=some (.ins C dx fs))(c:Cls X.K C)(n:bh X.K C f)(l:fs.lookup f=some v)
  (h:∀ u s',Inv X pins σ H s'->bc v u->Q u s'):wpAny (model X.prog X.w) A (getAttr (.ref a) f b) Q E s:=by
 obtain⟨mA,O,r,_,_,_⟩:=lZ I.hok e;obtain⟨u,hu,ru⟩:=nA.some_of (v:=v) (o:=mA f) (by rw [←l];exact r f);exact Ek I.kIn O (c.get f) c.hd n hu (oj ru) (h u _ (I.tok _) ru)
theorem k9{m:Str}{g:Addr}{pl:Sem Bool}{Q:Value × List Value->Shared->Prop}(I:Inv X pins σ H s)(e:H a=some (.ins C dx fs))(c:Cls X.K C)(k:kM X.K C m g)(l:fs.lookup m=none)
  (h:Q (.ref g,[.ref a]) s):wpAny (model X.prog X.w) A (getMethod (.ref a) m pl) Q E s:=by
 obtain⟨mA,O,r,_,_,_⟩:=lZ I.hok e;have hn:mA m=none:=nA.none_of (by rw [←l];exact r m);exact Aw I.kIn O (c.get m) k.at_ k.fn hn h
theorem sD{y:V}{u:Value}{Q:Unit->Shared->Prop}(I:Inv X pins σ H s)(e:H a=some (.ins C dx fs))(c:Cls X.K C)(n:bh X.K C f)(hl:fs.length < 1000)(ry:bc y u)
  (h:∀ s',Inv X pins σ (upd H a (.ins C dx (fD f y fs))) s'->Q () s'):wpAny (model X.prog X.w) A (setAttr (.ref a) f u) Q E s:=by
 obtain⟨mA,O,r,wi,_,ho⟩:=lZ I.hok e;have hz:(fs.map (·.1)).length<=sizeLine:=by rw [Md,sizeLine_eq];omega
 refine Cu I.kIn O c.sa c.po n.taker c.hd wi hz λ h' O' sb=>h _ ?_;have hd:∃ o,h'.get? dx=some o:=let ⟨o,_,_,e',_⟩:=O'.ns;⟨o,e'⟩;refine I.write (x:=a) (e:=dx) (by rw [e];exact True.intro) (.inr ho) (λ b q hb z=>(sb.2 b hb).trans z) hd ?_;refine⟨by rw [ae O.ne];exact ho,?_,O.ne,O'.obj,_,O'.ns,λ g=>?_,λ g hg=>?_⟩
 ·have:=jI f y fs;omega
 ·show nA ((fD f y fs).lookup g) (if g=f then some u else mA g)
  rw [aM]
  by_cases q:g=f
  ·rw [My q,My q];exact ry
  ·rw [Mw q,Mw q];exact r g
 ·by_cases q:g=f
  ·rw [q];exact(jy f y fs).1
  ·refine(jy f y fs).2 g (wi g λ z=>hg ?_)
   show (if g=f then some u else mA g)=none
   rw [Mw q];exact z
theorem Inv.made(I:Inv X pins σ H s):Inv X pins σ (upd (upd H s.heap.objs.size (.own (s.heap.objs.size+1))) (s.heap.objs.size+1) (.ins C s.heap.objs.size []))
  { s with heap:=(s.heap.push W.emptyDict).push (W.instObj C s.heap.objs.size) }:=by
 have e1:(s.heap.push W.emptyDict).get? s.heap.objs.size=some W.emptyDict:=Mn s.heap rfl
 have e2:((s.heap.push W.emptyDict).push (W.instObj C s.heap.objs.size)).get? (s.heap.objs.size+1)=some (W.instObj C s.heap.objs.size):=by
  have:=Mn (s.heap.push W.emptyDict) (o:=W.instObj C s.heap.objs.size) rfl
  rwa [Na] at this
 have e3:(s.heap.push W.emptyDict).Ns s.heap.objs.size (λ _=>none):=⟨W.emptyDict,#[],_,e1,rfl,(λ e he=>absurd he (by simp)),λ _=>rfl⟩;have I1:=I.laid (a:=s.heap.objs.size) (o:=.own (s.heap.objs.size+1)) (h':=s.heap.push W.emptyDict) (t':=s.toks) (λ b u q=>Ma _ q) (Mb _) ⟨_,e1⟩;refine I1.laid (a:=s.heap.objs.size+1) (o:=.ins C s.heap.objs.size []) (t':=s.toks) (λ b u q=>Ma _ q) (Oo (Na _ _)) ?_;have ne:s.heap.objs.size ≠ s.heap.objs.size+1:=Ms (NF _);refine⟨by rw [ae ne,ag],MC _,ne,e2,λ _=>none,(Heap.Ns1.of_empty e3).at λ o q=>Ma _ q,λ _=>True.intro,λ y hy=>absurd rfl hy⟩
theorem wb{prog:Program}{w:World}{env:Env}{e:Expr}{f:Str}{pos:Pos}{s:Shared}{Q:Value->Shared->Prop}(hb:attributeBase e f env (eval e env)=eval e env)
  (h:wpAny (model prog w) A (eval e env) (λ o s₁=>wpAny (model prog w) A (getAttr o f true) Q E s₁) E s):wpAny (model prog w) A (eval (.Attribute e f pos) env) Q E s:=
 Attribute_any_ h (by rw [arm_eval_Attribute,hb])
end
section
variable {X:Cx}{o e value:Expr}{f:Str}{pos pos' tpos:Pos}{ta tv:TE}
end
section
variable {X:Cx}{pins:List (Addr × Obj)}{σ:St}{H:Hp}{s:Shared}{A:Around}{E:Value->Shared->Prop}{Q:Value->Shared->Prop}{c:Value}{b:Bool}
inductive qI (K:PySem.W.Frag) (H:Hp):V->Value->Prop where
 | non:qI K H .non (.type "NoneType")
 | bl (x:Bool):qI K H (.bl x) (.type "bool")
 | int (i:Int):qI K H (.int i) (.type "int")
 | str (x:Str):qI K H (.str x) (.type "str")
 | flt (x:UInt64):qI K H (.flt x) (.type "float")
 | lst {a:Addr} {xs:List V} (e:H a=some (.lst xs)):qI K H (.ref a) (.type "list")
 | frz {a:Addr} {o:Obj} {xs:List V} (e:H a=some (.frz o (.lst xs))):qI K H (.ref a) (.type "list")
 | tup {a:Addr} {xs:List V} (e:H a=some (.tup xs)):qI K H (.ref a) (.type "tuple")
 | dK {a:Addr} {kvs:List (Key × V)} (e:H a=some (.dK kvs)):qI K H (.ref a) (.type "dict")
 | dT {a:Addr} {kvs:List (List Key × V)} (e:H a=some (.dT kvs)):qI K H (.ref a) (.type "dict")
 | ins {a C dx:Addr} {fs:List (Str × V)} (e:H a=some (.ins C dx fs)) (cl:Cls K C) (ha:PySem.W.findIn K (.ref C) "__class__"=some (some (.builtin "object.__class__")))
   (hn:PySem.W.specialIn K (.builtin "object.__class__") "__get__"=some (some (.builtin "getset_descriptor.__get__"))) (htk:PySem.W.takesIn K (.builtin "object.__class__")=some true)
   (hm:PySem.W.mroIn K C (.type "object")=some true):qI K H (.ref a) (.ref C)
theorem xX{x:V}{u t:Value}(I:Inv X pins σ H s)(rx:bc x u)(ty:qI X.K H x t)(e:W.kitOne X.K t c=some b)(h:∀ tk,Q (.bool b) { s with toks:=tk }) :
  wpAny (model X.prog X.w) A (call (.builtin "isinstance") [u,c]) Q E s:=by
 cases ty with
 | non=>cases (show u=Value.none from rx);exact NQ W.kitx_none I.kIn True.intro e (λ z=>nomatch z) h
 | bl y=>cases (show u=Value.bool y from rx);exact NQ W.kitx_bool I.kIn True.intro e (λ z=>nomatch z) h
 | int i=>obtain⟨t,q⟩:=(show ∃ t,u=Value.int i t from rx);cases q;exact NQ W.kitx_int I.kIn True.intro e (λ z=>nomatch z) h
 | str y=>obtain⟨t,q⟩:=(show ∃ t,u=Value.str y t from rx);cases q;exact NQ W.kitx_str I.kIn True.intro e (λ z=>nomatch z) h
 | flt y=>obtain⟨t,q⟩:=(show ∃ t,u=Value.float y t from rx);cases q;exact NQ W.kitx_float I.kIn True.intro e (λ z=>nomatch z) h
 | @lst a xs ea=>
  cases (show u=Value.ref a from rx);obtain⟨_,_,n,_,h1⟩:=(show aV X.prog X.w H s.heap a (.lst xs) from I.hok a _ ea);exact NQ W.kitx_list I.kIn ⟨_,h1,rfl⟩ e (λ z=>nomatch z) h
 | @frz a ob xs ea=>
  cases (show u=Value.ref a from rx);obtain⟨_,_,_,n,_,h1⟩:=(show aV X.prog X.w H s.heap a (.frz ob (.lst xs)) from I.hok a _ ea);exact NQ W.kitx_list I.kIn ⟨_,h1,rfl⟩ e (λ z=>nomatch z) h
 | @tup a xs ea=>
  cases (show u=Value.ref a from rx);obtain⟨_,_,_,p⟩:=(show aV X.prog X.w H s.heap a (.tup xs) from I.hok a _ ea);obtain⟨o,h1,h2,_⟩:=p;exact NQ W.kitx_tuple I.kIn ⟨o,h1,h2⟩ e (λ z=>nomatch z) h
 | @dK a kvs ea=>
  cases (show u=Value.ref a from rx);obtain⟨_,_,vs,_,p⟩:=(show aV X.prog X.w H s.heap a (.dK kvs) from I.hok a _ ea);obtain⟨o,es,ep,h1,h2,_⟩:=p;exact NQ W.kitx_dict I.kIn ⟨o,h1,h2.1⟩ e (λ z=>nomatch z) h
 | @dT a kvs ea=>
  cases (show u=Value.ref a from rx);obtain⟨_,_,xs,_,o,es,ep,h1,h2,_⟩:=(show aV X.prog X.w H s.heap a (.dT kvs) from I.hok a _ ea);exact NQ W.kitx_dict I.kIn ⟨o,h1,h2.1⟩ e (λ z=>nomatch z) h
 | @ins a C dx fs ea cl ha hn htk hm=>
  cases (show u=Value.ref a from rx);obtain⟨mA,O,_⟩:=lZ I.hok ea;obtain⟨od,J,_⟩:=O.look;exact NQ (W.kitx_own (cl.get _) cl.hd ha hn htk hm) I.kIn J e (λ z=>nomatch z) h
end
structure fE(k:Nat)(A:Around):Prop where
 hd:A.handled=none
 dp:A.depth+3 * k+5 < recursionLimit
 un:A.units+16 * k+200 < cLine
theorem fE.mono{j k:Nat}{A:Around}(r:fE k A)(h:j<=k):fE j A:=⟨r.hd,by have:=r.dp;omega,by have:=r.un;omega⟩
theorem fE.deeper{k:Nat}{A:Around}(r:fE (k+1) A)(env:Env):fE k (A.deeper env):=
 ⟨r.hd,by have:=r.dp;show A.depth+1+3 * k+5 < _;omega,by have:=r.un;show A.units+3+16 * k+200 < _;omega⟩
theorem fE.in1{k:Nat}{A:Around}(r:fE (k+1) A):fE k A.in1:=
 ⟨r.hd,by have:=r.dp;show A.depth+3 * k+5 < _;omega,by have:=r.un;show A.units+1+16 * k+200 < _;omega⟩
theorem sN{A:Around}{C:Addr}{us:List Value}{kw:List (Str × Value)}:(A.under (.builtin "type.__call__" ⟨.ref C::us,kw⟩)).depth=A.depth+1:=by
 first|rfl|simp [Around.under,Code.weight,Code.isCreation,Code.isGuard,Code.isCaller,Code.frames,Code.isFrame,guardIds]
theorem sM{A:Around}{C:Addr}{us:List Value}{kw:List (Str × Value)}:(A.under (.builtin "type.__call__" ⟨.ref C::us,kw⟩)).units=A.units+1:=by
 first|rfl|simp [Around.under,Code.cUnits,Code.frames,Code.isFrame]
theorem fE.make{k:Nat}{A:Around}(r:fE (k+1) A)(C:Addr)(us:List Value)(kw:List (Str × Value)):fE k (A.under (.builtin "type.__call__" ⟨.ref C::us,kw⟩)):=
 ⟨r.hd,by have:=r.dp;rw [sN];omega,by have:=r.un;rw [sM];omega⟩
theorem fE.depth{k:Nat}{A:Around}(r:fE k A):A.depth < recursionLimit:=by have:=r.dp;omega
theorem fE.units{k:Nat}{A:Around}(r:fE k A):A.units+64 < cLine:=by have:=r.un;omega
def Iq:TA:=λ _ H Q=>Q [] H
def yL(ta:TE)(tr:TA):TA:=λ σ H Q=>ta σ H λ x H1=>tr σ H1 λ xs H2=>Q (x::xs) H2
section
variable {X:Cx}{e:Expr}{es:List Expr}{te:TE}{t:TA}{pos:Pos}
theorem aH:PA X [] Iq:=λ _ _ _ _ H Q I h=>Calls.spliced_nil ⟨[],H,I,.nil,h⟩
theorem CO(ha:PE X e te)(hr:PA X es t)(hs:starEach (e::es) X.env=(false,eval e X.env)::starEach es X.env:=by rfl):PA X (e::es) (yL te t):=by
 intro pos pins s σ H Q I h;rw [hs]
 show wpAny _ _ (spliced ((false,eval e X.env)::backTo pos (starEach es X.env))) _ _ s
 refine Calls.spliced_cons (thn (ha pins s σ H _ I h) λ u s1 ⟨x,H1,I1,r1,q1⟩=>?_);exact thn (hr pos pins s1 σ H1 _ I1 q1) λ us s2 ⟨xs,H2,I2,r2,q2⟩=>⟨x::xs,H2,I2,.cons r1 r2,q2⟩
end
abbrev Sp:=List V->Hp->VK->XK->Prop
abbrev CXT:=List Env->Hp->Shared->XK->Value->Shared->Prop
structure ue(P:Program)(w:World)(K:W.Frag)(mg:Str->Option Value)(base:Heap)(A:Around)(outer:List Env)(s:Shared)(H:Hp):Prop where
 frames:A.frames=some outer
 mod:Mod K mg base
 bs:∀ b o,base.get? b=some o->s.heap.get? b=some o/\H b=none
 bsz:base.objs.size<=s.heap.objs.size
 funs:s.heap.FunFrames base outer
 frf:∀ b∈frs outer,H b=none
 hok:HOk P w H s.heap
 bare:AllBare s.gens
def CE(outer:List Env)(P:Program)(w:World)(H:Hp)(s:Shared)(Q:VK)(u:Value)(s':Shared):Prop:=
 ∃ v H',s'.os=s.os/\AllBare s'.gens/\Un (frs outer) [] H H' s.heap s'.heap/\HOk P w H' s'.heap/\bc v u/\Q v H'
def CR(CX:CXT)(outer:List Env)(P:Program)(w:World)(H:Hp)(s:Shared)(Q:VK)(E:XK)(r:Result)(s':Shared):Prop:=
 match r with
 | .ok (.ret u)=>CE outer P w H s Q u s'
 | .ok _=>False
 | .error e=>CX outer H s E e s'
structure aW(P:Program)(w:World)(K:W.Frag)(mg:Str->Option Value)(base:Heap)(CX:CXT)(k:Nat)(f:Addr)(fd:FuncData)(ps:List Str)(sp:Sp):Prop where
 len:∀ vs H Q E,sp vs H Q E->vs.length=ps.length
 run:∀ (A:Around) (outer:List Env) (s:Shared) (H:Hp) (args:Args) (us:List Value) (vs:List V) (Q:VK) (E:XK),fE k A->ue P w K mg base A outer s H->BindsTo s fd args (ps.zip us)->br vs us->sp vs H Q E →
  codeAny (model P w) A (.call (.ref f) args) (CR CX outer P w H s Q E) s
theorem aW.imp{P:Program}{w:World}{K:W.Frag}{mg:Str->Option Value}{base:Heap}{CX:CXT}{k:Nat}{f:Addr}{fd:FuncData}{ps:List Str}{sp sp':Sp}(F:aW P w K mg base CX k f fd ps sp)
  (h:∀ vs H Q E,sp' vs H Q E->sp vs H Q E):aW P w K mg base CX k f fd ps sp':=
 ⟨λ vs H Q E q=>F.len vs H Q E (h _ _ _ _ q),λ A outer s H args us vs Q E hr he hb hv hs=>F.run A outer s H args us vs Q E hr he hb hv (h _ _ _ _ hs)⟩
theorem ue.make{P:Program}{w:World}{K:W.Frag}{mg:Str->Option Value}{base:Heap}{A:Around}{outer:List Env}{s:Shared}{H:Hp}(e:ue P w K mg base A outer s H)(C:Addr)(us:List Value)(kw:List (Str × Value)) :
  ue P w K mg base (A.under (.builtin "type.__call__" ⟨.ref C::us,kw⟩)) outer s H:=⟨by first|exact e.frames|(simpa [Around.under,Code.envs,Code.isFrame,pushEnvs] using e.frames),e.mod,e.bs,e.bsz,e.funs,e.frf,e.hok,e.bare⟩
theorem ue.in1{P:Program}{w:World}{K:W.Frag}{mg:Str->Option Value}{base:Heap}{A:Around}{outer:List Env}{s:Shared}{H:Hp}(e:ue P w K mg base A outer s H) :
  ue P w K mg base A.in1 outer s H:=⟨e.frames,e.mod,e.bs,e.bsz,e.funs,e.frf,e.hok,e.bare⟩
section
variable {X:Cx}{pins:List (Addr × Obj)}{σ:St}{H:Hp}{s s':Shared}
theorem Inv.env0(I:Inv X pins σ H s):ue X.prog X.w X.K X.mg X.base X.A X.stack s H:=
 ⟨I.ok.frames,I.ok.mod,I.bs,MQ I.ok.bsz I.sz,I.stack,I.stkFree,I.hok,I.bare⟩
theorem Inv.after{Q:VK}{u:Value}(I:Inv X pins σ H s)(h:CE X.stack X.prog X.w H s Q u s'):EP X pins σ Q u s':=by
 obtain⟨v,H',os,bare,un,hok,r,q⟩:=h;obtain⟨hh,g,d,t,os'⟩:=s';obtain rfl:os'=s.os:=os;exact⟨v,H',I.call (h':=hh) (g':=g) (d':=d) (t':=t) (ch:=[]) un hok bare (λ b z=>absurd z (by simp)),r,q⟩
end
def E9(sp:Sp)(dvs:List V)(E:XK)(t:TA):TE:=λ σ H Q=>t σ H λ vs H1=>sp (vs++dvs) H1 Q E
def az(K:W.Frag)(fd:FuncData)(ps:List Str)(ds:List Value):Prop:=
 ∀ (s:Shared) (us:List Value),K.In s.heap->(us++ds).length=ps.length->BindsTo s fd ⟨us,[]⟩ (ps.zip (us++ds))
theorem az.all{K:W.Frag}{fd:FuncData}{ps:List Str}(h:∀ us:List Value,us.length=ps.length->bindArgs fd ⟨us,[]⟩=pure (ps.zip us)):az K fd ps []:=λ s us _ hl=>by
 rw [Oq] at hl ⊢;exact .of_eq (h us hl)
def iC(CX:CXT)(X:Cx)(E:XK):Prop:=∀ (pins:List (Addr × Obj)) (σ:St) (H:Hp) (s:Shared) (e:Value) (s':Shared),Inv X pins σ H s->CX X.stack H s E e s'->X.xe e s'
section
variable {X:Cx}{CX:CXT}{k:Nat}{f C:Addr}{fd:FuncData}{ps:List Str}{sp:Sp}{dvs:List V}{ds:List Value}{E:XK}{x m:Str}{p pos apos:Pos}{e o:Expr}{es:List Expr}{ta:TE}{t:TA}
theorem uU{pins:List (Addr × Obj)}{σ:St}{H:Hp}{s:Shared}{Q:VK}{us:List Value}{vs:List V}(F:aW X.prog X.w X.K X.mg X.base CX k f fd ps sp)(hr:fE k X.A)(hb:az X.K fd ps ds)(hd:br dvs ds)(hx:iC CX X E)
  (I:Inv X pins σ H s) (r:br vs us) (h:sp (vs++dvs) H Q E):wpAny (model X.prog X.w) X.A (call (.ref f) us) (EP X pins σ Q) X.xe s:=by
 have r2:br (vs++dvs) (us++ds):=r.append hd;have hl:(us++ds).length=ps.length:=by rw [←r2.length];exact F.len _ _ _ _ h
 refine NM (NJ (F.run X.A X.stack s H ⟨us,[]⟩ (us++ds) (vs++dvs) Q E hr I.env0 (hb s us I.kIn hl) r2 h) λ r s' hq=>?_)
 cases r with
 | error e=>exact hx pins σ H s e s' I hq
 | ok fl=>
  cases fl with
  | ret u=>exact I.after hq
  | next=>exact False.elim hq
  | brk=>exact False.elim hq
  | cont=>exact False.elim hq
theorem vI(F:aW X.prog X.w X.K X.mg X.base CX k f fd ps sp)(hr:fE k X.A)(hg:Gl X x)(hm:X.mg x=some (.ref f))(hk:W.keepIn X.K (.ref f)=true)(hb:az X.K fd ps ds)(hd:br dvs ds)(hx:iC CX X E)
  (ha:PA X (e::es) t) (hdb:(x == ("__debug__":Str))=false:=by decide) (he:starEach (e::es) X.env=(false,eval e X.env)::starEach es X.env:=by rfl) (hpl:(backTo pos (starEach es X.env)).any (·.1)=false:=by rfl) :
  PE X (.Call (.Name x p) (e::es) [] pos) (E9 sp dvs E t):=by
 intro pins s σ H Q I h;refine Nb (eu I hg hm ?_ hdb);refine W.callWith_K (h₀:=X.base) I.ok.mod.kin hk (thn (ha pos pins s σ H _ I h) λ us s1 ⟨vs,H1,I1,r,q⟩=>⟨I1.kIn,?_⟩) he hpl;exact uU F hr hb hd hx I1 r q
structure Mk(K:W.Frag)(C f:Addr):Prop where
 makes:W.makesIn K C=true
 init:W.findIn K (.ref C) "__init__"=some (some (.ref f))
 fn:W.isFn K (.ref f)=true
 kp:W.keepIn K (.ref C)=true
theorem zo{pins:List (Addr × Obj)}{σ:St}{H:Hp}{s:Shared}{Q:VK}{us:List Value}{vs:List V}(M:Mk X.K C f)(F:aW X.prog X.w X.K X.mg X.base CX k f fd ps sp)(hr:fE (k+1) X.A)(hb:az X.K fd ps ds)(hd:br dvs ds)
  (hx:iC CX X E) (I:Inv X pins σ H s) (r:br vs us)
  (h:∀ x dx,H x=none->H dx=none->dx ≠ x->sp (.ref x::(vs++dvs)) (upd (upd H dx (.own x)) x (.ins C dx [])) (λ v H2=>v=.non/\Q (.ref x) H2) E) :
  wpAny (model X.prog X.w) X.A (call (.ref C) us) (EP X pins σ Q) X.xe s:=by
 have hq:=h (s.heap.objs.size+1) s.heap.objs.size (I.hok.fresh (Nt _)) (I.hok.fresh (Mb _)) (Ms (NF _));have I2:=Inv.made (C:=C) I;have r2:br (V.ref (s.heap.objs.size+1)::(vs++dvs)) (Value.ref (s.heap.objs.size+1)::(us++ds)):=.cons rfl (r.append hd)
 have hl:(Value.ref (s.heap.objs.size+1)::us++ds).length=ps.length:=by
  have e:=r2.length;rw [F.len _ _ _ _ hq] at e;exact e.symm
 refine NM (zP (f:=f) I.kIn M.makes M.init (NY.mp M.fn) (NJ (F.run _ X.stack _ _ ⟨Value.ref (s.heap.objs.size+1)::us,[]⟩ (Value.ref (s.heap.objs.size+1)::(us++ds)) _ _ E (hr.make C us [])
  (I2.env0.make C us []) (hb _ (Value.ref (s.heap.objs.size+1)::us) I2.kIn hl) r2 hq) λ r s' hq'=>?_))
 cases r with
 | error e=>exact hx pins σ _ _ e s' I2 hq'
 | ok fl=>
  cases fl with
  | ret u=>
   obtain⟨v,H',I3,rv,ev,q3⟩:=I2.after hq';subst ev;exact⟨rv,⟨V.ref (s.heap.objs.size+1),H',I3,rfl,q3⟩⟩
  | next=>exact False.elim hq'
  | brk=>exact False.elim hq'
  | cont=>exact False.elim hq'
end
def PK(X:Cx)(kws:List Keyword)(t:TA):Prop:=
 ∀ (pos:Pos) (pins:List (Addr × Obj)) (s:Shared) (σ:St) (H:Hp) (Q:List V->Hp->Prop),Inv X pins σ H s->t σ H Q->wpAny (model X.prog X.w) X.A (evalAll ((backToKw pos (keywordEach kws X.env)).map (·.2))) (AP X pins σ Q) X.xe s
section
variable {X:Cx}{CX:CXT}{k:Nat}{f C:Addr}{fd:FuncData}{ps ks:List Str}{sp:Sp}{E:XK}{x m:Str}{p pos apos kpos:Pos}{e o:Expr}{es:List Expr}{kws:List Keyword}{te ta:TE}{t tk:TA}{nm:Option Str}
theorem Be:PK X [] Iq:=λ _ _ _ _ H Q I h=>wpAny_evalAll_nil ⟨[],H,I,.nil,h⟩
theorem vF(ha:PE X e te)(hr:PK X kws t):PK X (⟨nm,e,kpos⟩ :: kws) (yL te t):=by
 intro pos pins s σ H Q I h
 show wpAny _ _ (evalAll ((do let v ←eval e X.env;standAt pos;pure v)::(backToKw pos (keywordEach kws X.env)).map (·.2))) _ _ s
 refine O3 (L7 (thn (ha pins s σ H _ I h) λ u s1 ⟨x,H1,I1,r1,q1⟩=>L7 (NS (Mf ?_))));exact thn (hr pos pins s1 σ H1 _ I1 q1) λ us s2 ⟨xs,H2,I2,r2,q2⟩=>⟨x::xs,H2,I2,.cons r1 r2,q2⟩
variable {g:List Value->List Value->List Value}{gV:List V->List V->List V}
end
structure aj(N P:List Str)(sc:Scope):Prop where
 kind:sc.kind=.function
 co:sc.isCoroutine=false
 gen:sc.isGenerator=false
 nd:N.Nodup
 pre:N.take P.length=P
 par:∀ x∈P,sc.names.lookup x=some .local\/sc.names.lookup x=some .cell
 nofree:∀ y∈sc.names,y.2 ≠ .free
theorem oF{kindOf:Str->Option NameKind}{x:Str}:∀ {binds:List (Str × Value)}{m:Str->Option Value},(∀ v,(x,v) ∉ binds)->bindL kindOf binds m x=m x
 | [],_,_=>rfl
 | (n,v)::r,m,h=>by
  unfold bindL;rw [oF λ w hw=>h w (mem_cons_of_mem _ hw)];split
  ·have:x ≠ n:=by rintro rfl;exact h v Mx
   simp [this]
  ·rfl
theorem oH{kindOf:Str->Option NameKind}{x:Str}:∀ {binds:List (Str × Value)}{m:Str->Option Value},(∀ v,(x,v) ∉ binds)->bindC kindOf binds m x=m x
 | [],_,_=>rfl
 | (n,v)::r,m,h=>by
  unfold bindC;rw [oH λ w hw=>h w (mem_cons_of_mem _ hw)];split
  ·rfl
  ·have:x ≠ n:=by rintro rfl;exact h v Mx
   simp [this]
theorem oG{kindOf:Str->Option NameKind}{x:Str}{v:Value}:∀ {P:List Str}{vs:List Value}{i:Nat}{m:Str->Option Value},P.Nodup->P[i]? = some x->vs[i]? = some v->kindOf x=some .local →
  bindL kindOf (P.zip vs) m x=some v
 | [],_,_,_,_,h,_,_=>by simp at h
 | _::_,[],_,_,_,_,h,_=>by simp at h
 | p::P,w::vs,0,m,nd,h1,h2,hk=>by
  simp at h1 h2;subst h1;subst h2
  show bindL kindOf ((p,w)::P.zip vs) m p=_
  unfold bindL;rw [oF λ v hv=>(List.nodup_cons.mp nd).1 (List.of_mem_zip hv).1,if_pos hk];simp
 | p::P,w::vs,i+1,m,nd,h1,h2,hk=>by
  show bindL kindOf ((p,w)::P.zip vs) m x=_
  unfold bindL;exact oG (i:=i) (List.nodup_cons.mp nd).2 (by simpa using h1) (by simpa using h2) hk
theorem oI{kindOf:Str->Option NameKind}{x:Str}{v:Value}:∀ {P:List Str}{vs:List Value}{i:Nat}{m:Str->Option Value},P.Nodup->P[i]? = some x->vs[i]? = some v->kindOf x ≠ some .local →
  bindC kindOf (P.zip vs) m x=some v
 | [],_,_,_,_,h,_,_=>by simp at h
 | _::_,[],_,_,_,_,h,_=>by simp at h
 | p::P,w::vs,0,m,nd,h1,h2,hk=>by
  simp at h1 h2;subst h1;subst h2
  show bindC kindOf ((p,w)::P.zip vs) m p=_
  unfold bindC;rw [oH λ v hv=>(List.nodup_cons.mp nd).1 (List.of_mem_zip hv).1,if_neg hk];simp
 | p::P,w::vs,i+1,m,nd,h1,h2,hk=>by
  show bindC kindOf ((p,w)::P.zip vs) m x=_
  unfold bindC;exact oI (i:=i) (List.nodup_cons.mp nd).2 (by simpa using h1) (by simpa using h2) hk
def au(N:List Str)(vs:List V):St:=vs.map some++List.replicate (N.length - vs.length) none
def r6(CX:CXT)(P:Program)(w:World)(K:W.Frag)(mg:Str->Option Value)(base:Heap)(N:List Str)(qual:Str)(scope:Scope)(f:Addr)(cd:Value)(A:Around)(outer:List Env)(s:Shared)(H:Hp)(E:XK):Cx where
 prog:=P
 w:=w
 K:=K
 mg:=mg
 base:=base
 A:=A.deeper (envOfC qual scope s.heap.objs.size f cd)
 N:=N
 s₀:=s
 H₀:=H
 env:=envOfC qual scope s.heap.objs.size f cd
 outer:=outer
 stack:=envOfC qual scope s.heap.objs.size f cd::outer
 ex:=[]
 calm:=true
 fn:=λ _=>true
 pn:=[]
 xe:=λ e s'=>wpAny (model P w) (A.deeper (envOfC qual scope s.heap.objs.size f cd)) (leaving (envOfC qual scope s.heap.objs.size f cd) e) (λ _ s''=>CX outer H s E e s'') (λ e' s''=>CX outer H s E e' s'') s'
theorem rP{sc:Scope}{n:Nat}{x:Str}(h:sc.names.lookup x=some .cell):∃ c,(cellsFrom n sc.names []).lookup x=some c:=by
 have q:=W.cellsFrom_some sc.names n [] (.inl h);exact NZ.mp q
theorem xY{CX:CXT}{P:Program}{w:World}{K:W.Frag}{mg:Str->Option Value}{base:Heap}{N ps:List Str}{qual:Str}{scope:Scope}{f:Addr}{cd:Value}{A:Around}{outer:List Env}{s s1:Shared}{H:Hp}{E:XK}{us:List Value}{vs:List V}
  (S:aj N ps scope) (hd:A.handled=none) (e0:ue P w K mg base A outer s H) (hl:vs.length=ps.length) (r:br vs us)
  (x:InCallC s s.heap.objs.size (bindL (envOfC qual scope s.heap.objs.size f cd).kindOf (ps.zip us) λ _=>none) (cellsFrom (s.heap.objs.size+1) scope.names []) (bindC (envOfC qual scope s.heap.objs.size f cd).kindOf (ps.zip us) λ _=>none) s1) :
  Inv (r6 CX P w K mg base N qual scope f cd A outer s H E) [] (au N vs) H s1:=by
 have hpl:ps.length<=N.length:=by have:=NI List.length S.pre;rw [OF] at this;omega
 obtain⟨h1,tk,rfl,hk⟩:=x.done;have noA:∀ b:Addr,b ∉ (r6 CX P w K mg base N qual scope f cd A outer s H E).ex:=λ b z=>absurd (show b∈([]:List Addr) from z) (by simp)
 refine⟨⟨e0.mod,S.kind,rfl,rfl,Mb _,λ y z c h1 h2=>?_,λ y hy=>?_,λ y c _ h=>?_,λ _=>hd,Around.frames_deeper e0.frames,.inr ⟨rfl,rfl⟩,λ b z=>absurd z (noA b),e0.bs,e0.bsz,λ b _ _=>noA b,λ b z=>absurd z (noA b),e0.funs,e0.frf⟩,
  rfl,e0.bare,Un.kept hk,⟨_,x.toInCall.ns,λ i y v h1 h2 h3=>?_⟩,λ y c h=>⟨_,x.cell y c h⟩,e0.hok.fresh (Mb _),λ y c h=>?_,λ p hp=>absurd (show p∈([]:List (Addr × Obj)) from hp) (by simp),e0.hok.kept hk,?_⟩
 ·exact name_of_addr x.apart (NW h1) (NW h2)
 ·have hy:scope.names.lookup y=some .cell\/scope.names.lookup y=some .free:=hy
  rcases hy with hy|hy
  ·exact rP hy
  ·exact absurd rfl (S.nofree _ (NW hy))
 ·exact NK (x.above y c (NW h))
 ·have hi:i < vs.length:=by
   unfold au at h2
   by_cases hi:i < vs.length
   ·exact hi
   ·rw [MG (by simpa using hi)] at h2;rw [NB] at h2
    split at h2<;>cases h2
  have ha:vs[i]? = some v:=by
   unfold au at h2;rw [getElem?_append_left (by simpa using hi),getElem?_map] at h2
   cases e:vs[i]? with
   | none=>rw [e] at h2;cases h2
   | some a=>rw [e] at h2;cases h2;rfl
  obtain⟨u,hu,rv⟩:=r.get ha
  have hp:ps[i]? = some y:=by
   rw [←S.pre,List.getElem?_take_of_lt (by omega)];exact h1
  have ndP:ps.Nodup:=by rw [←S.pre];exact S.nd.sublist (List.take_sublist _ _)
  refine⟨u,rv,?_⟩
  rcases S.par y (Mu hp) with k|k
  ·exact .inl ⟨k,oG ndP hp hu k⟩
  ·obtain⟨c,e⟩:=rP (n:=s.heap.objs.size+1) k;refine .inr ⟨.inl k,c,e,?_⟩;have q:=x.cell y c e;rw [oI ndP hp hu (by show scope.names.lookup y ≠ _;rw [k];decide)] at q;exact q
 ·exact e0.hok.fresh (NK (x.above y c (NW h)))
 ·unfold au
  show _=N.length
  rw [Ml,Md,Nl];omega
theorem yX{CX:CXT}{P:Program}{w:World}{K:W.Frag}{mg:Str->Option Value}{base:Heap}{k:Nat}{f:Addr}{name qual:Str}{params:Arguments}{body:List Stmt}{scope:Scope}{dV kV doc pm cdv ct oc:Value}{an od:Option Addr}
  {osl:Array (Option Value)} {N ps:List Str} {sp:Sp} (lk:K.lookup f=some ⟨oc,od,.func (W.fnOf name qual params body scope dV kV doc pm an cdv ct),osl⟩) (hcd:W.codeIn K cdv qual=true) (S:aj N ps scope)
  (len:∀ vs H Q E,sp vs H Q E->vs.length=ps.length)
  (hbody:∀ (A:Around) (outer:List Env) (s:Shared) (H:Hp) (vs:List V) (Q:VK) (E:XK),fE k (A.deeper (envOfC qual scope s.heap.objs.size f cdv))->sp vs H Q E →
   ∃ t,PSs (r6 CX P w K mg base N qual scope f cdv A outer s H E) body t/\t { nx:=λ _ H'=>Q .non H',rt:=Q } (au N vs) H) :
  aW P w K mg base CX (k+1) f (W.fnOf name qual params body scope dV kV doc pm an cdv ct) ps sp:=by
 refine⟨len,λ A outer s H args us vs Q E hr e0 hb r hsp=>?_⟩;have hl:=len _ _ _ _ hsp;have KX:K.In s.heap:=e0.mod.kin.keeps λ b o e=>(e0.bs b o e).1;have lim:s.heap.NoLimit:=e0.mod.nolimit.keeps λ b o e=>(e0.bs b o e).1
 have hkind:∀ y∈ps.zip us,scope.names.lookup y.1=some .local\/(scope.names.lookup y.1=some .cell/\((cellsFrom (s.heap.objs.size+1) scope.names []).lookup y.1).isSome=true):=λ ⟨n,v⟩ hy=>by
  rcases S.par n (O4 hy).1 with q|q
  ·exact .inl q
  ·exact .inr ⟨q,W.cellsFrom_some _ _ _ (.inl q)⟩
 refine codeAny_call_function hr.depth (KX _ _ lk) rfl S.co S.gen rfl (W.codeRec_of KX hcd) (hb _ _ _ _ ?_);refine wpAny_newFunctionEnv_cells S.kind hkind λ env he s1 x=>?_;subst he;refine⟨lim.keeps x.toInCall.keep,codeAny_func ?_⟩;obtain⟨t,ht,hq⟩:=hbody A outer s H vs Q E (hr.deeper _) hsp;have I:Inv (r6 CX P w K mg base N qual scope f cdv A outer s H E) [] (au N vs) H s1:=xY S hr.hd e0 hl r x;refine Nk (ht [] s1 (au N vs) H _ I hq) (λ fl s' hs=>?_) λ e s' hs=>hs
 have fin:∀ {σ':St} {H':Hp} {v:V} {u:Value},Inv (r6 CX P w K mg base N qual scope f cdv A outer s H E) [] σ' H' s'->bc v u->Q v H'->CE outer P w H s Q u s':=
  λ {σ' H' v u} J rv q=>⟨v,H',J.os,J.bare,J.base,J.hok,rv,q⟩
 cases fl with
 | ret u=>
  obtain⟨v,σ',H',J,rv,q⟩:=hs;exact fin J rv q
 | next=>
  obtain⟨σ',H',J,q⟩:=hs;exact fin (v:=V.non) (u:=Value.none) J rfl q
 | brk=>
  obtain⟨_,_,_,q⟩:=hs;exact False.elim q
 | cont=>
  obtain⟨_,_,_,q⟩:=hs;exact False.elim q
section
variable {X:Cx}{x:Str}{p pos:Pos}{e:Expr}{es:List Expr}{t:TA}{id T:String}{r:List V->Hp->VK->Prop}
def tCB(r:List V->Hp->VK->Prop)(t:TA):TE:=λ σ H Q=>t σ H λ vs H1=>r vs H1 Q
theorem iW(hc:bO X (.builtin id) r)(hg:Gl X x)(hm:X.mg x=none)(hv:bootBuiltins x=some (.builtin id))(ha:PA X (e::es) t)(hn:x ≠ "__name__":=by decide)(hdb:(x == ("__debug__":Str))=false:=by decide)
  (he:starEach (e::es) X.env=(false,eval e X.env)::starEach es X.env:=by rfl) (hpl:(backTo pos (starEach es X.env)).any (·.1)=false:=by rfl):PE X (.Call (.Name x p) (e::es) [] pos) (tCB r t):=by
 intro pins s σ H Q I h;refine Nb (fX I hg hm hv ?_ hn hdb);exact OX (thn (ha pos pins s σ H _ I h) λ us s1 ⟨vs,H1,I1,r1,q1⟩=>hc pins s1 σ H1 vs us Q I1 r1 q1) he hpl
theorem gN(hc:bO X (.type T) r)(hg:Gl X x)(hm:X.mg x=none)(hv:bootBuiltins x=some (.type T))(ha:PA X (e::es) t)(hn:x ≠ "__name__":=by decide)(hdb:(x == ("__debug__":Str))=false:=by decide)
  (he:starEach (e::es) X.env=(false,eval e X.env)::starEach es X.env:=by rfl) (hpl:(backTo pos (starEach es X.env)).any (·.1)=false:=by rfl):PE X (.Call (.Name x p) (e::es) [] pos) (tCB r t):=by
 intro pins s σ H Q I h;refine Nb (fX I hg hm hv ?_ hn hdb);exact Nm (thn (ha pos pins s σ H _ I h) λ us s1 ⟨vs,H1,I1,r1,q1⟩=>hc pins s1 σ H1 vs us Q I1 r1 q1) he hpl
end
end L2
namespace HT
open PySem PyProof.Rows
section
open PySem.SeqAt
open PySem.AutoSeq1 (wpAny_loadPart')
open PySem.MeetsSeq PySem.MeetsSeq2 PySem.MeetsSeq3
end
section
variable {prog:Program}{w:World}{A:Around}{E:Value->Shared->Prop}{s:Shared}
end
end HT
namespace L2
open PySem PySem.Spec PyProof.Rows
abbrev TO:=St->Hp->(Option Int->Hp->Prop)->Prop
section
variable {X:Cx}{e:Expr}{te:TE}{lo hi:Option Expr}{tl th:TO}{pos p2:Pos}
end
def ixN(n:Nat)(i:Int):Option Nat:=if 0<=i then (if i < n then some i.toNat else none) else if -(n:Int)<=i then some (i+n).toNat else none
def atI{α:Type}(xs:List α)(i:Int):Option α:=(ixN xs.length i).bind λ j=>xs[j]?
theorem Eh{n:Nat}{i:Int}{j:Nat}(h:ixN n i=some j):seqIndex? i n=some j/\j < n/\-(n:Int)<=i/\i < n:=by
 unfold ixN at h
 by_cases h0:0<=i
 ·rw [My h0] at h
  by_cases h1:i < n
  ·rw [My h1] at h;have e:i.toNat=j:=MU h;exact⟨by rw [seqIndex_of h0 h1,e],by omega,by omega,h1⟩
  ·rw [Mw h1] at h;cases h
 ·rw [Mw h0] at h
  by_cases h1:-(n:Int)<=i
  ·rw [My h1] at h;have e:(i+n).toNat=j:=MU h;exact⟨by rw [seqIndex_neg (by omega) h1,e],by omega,h1,by omega⟩
  ·rw [Mw h1] at h;cases h
theorem we{α:Type}{xs:List α}{i:Int}{v:α}(h:atI xs i=some v):∃ j,seqIndex? i xs.length=some j/\xs[j]? = some v/\j < xs.length/\-(xs.length:Int)<=i/\i < xs.length:=by
 unfold atI at h
 cases e:ixN xs.length i with
 | none=>rw [e] at h;cases h
 | some j=>
  rw [e] at h;obtain⟨h1,h2,h3,h4⟩:=Eh e;exact⟨j,h1,h,h2,h3,h4⟩
theorem bA{α:Type}{xs:List α}{j:Nat}{v:α}(h:xs[j]? = some v):atI xs (j:Int)=some v:=by
 have hj:j < xs.length:=(L9.mp h).1
 have e:ixN xs.length (j:Int)=some j:=by
  unfold ixN;rw [if_pos (by omega),if_pos (by omega)];simp
 unfold atI;rw [e];exact h
def EJ(b:Expr):Prop:=∀ o i,subscripted b false o i=operate [o,i] (getItem o i)
def IxR(X:Cx)(r:R2):Prop:=
 ∀ (value slice:Expr) (pins:List (Addr × Obj)) (s:Shared) (σ:St) (H:Hp) (x y:V) (v u:Value) (Q:VK),Inv X pins σ H s->bc x v->bc y u->r x y H Q →
  subscripted slice false v u=operate [v,u] (getItem v u)->wpAny (model X.prog X.w) X.A (subscriptTail value slice v u) (EP X pins σ Q) X.xe s
def MtR(X:Cx)(id:String)(r:V->List V->Hp->VK->Prop):Prop:=
 ∀ (pins:List (Addr × Obj)) (s:Shared) (σ:St) (H:Hp) (x:V) (xs:List V) (v:Value) (us:List Value) (Q:VK),Inv X pins σ H s->bc x v->br xs us->r x xs H Q →
  wpAny (model X.prog X.w) X.A (call (.builtin id) (v::us)) (EP X pins σ Q) X.xe s
section
variable {X:Cx}{a b:Expr}{ta tb:TE}{pos:Pos}
theorem IxR.or{r r':R2}(h:IxR X r)(h':IxR X r'):IxR X (λ x y H Q=>r x y H Q\/r' x y H Q):=by
 intro value slice pins s σ H x y v u Q I rx ry q hs
 rcases q with q|q
 ·exact h value slice pins s σ H x y v u Q I rx ry q hs
 ·exact h' value slice pins s σ H x y v u Q I rx ry q hs
theorem BX{r:R2}(hr:IxR X r)(ha:PE X a ta)(hb:PE X b tb)(hs:EJ b):PE X (.Subscript a b pos) (tOp r ta tb):=by
 intro pins s σ H Q I h;exact Subscript_ (JC ha hb I h λ v u s2 x y H2 I2 rx ry q=>hr a b pins s2 σ H2 x y v u Q I2 rx ry q (hs _ _))
def LH(K:W.Frag):R2:=λ x y H Q=>∃ p xs i v,x=.ref p/\y=.int i/\SqL K H p xs/\atI xs i=some v/\Q v H
def LG(K:W.Frag):R2:=λ x y H Q=>∃ p xs i v,x=.ref p/\y=.int i/\SqT K H p xs/\atI xs i=some v/\Q v H
theorem p7:IxR X (LH X.K):=by
 intro value slice pins s σ H x y v u Q I rx ry h hs;obtain⟨p,xs,i,z,rfl,rfl,hq,he,q⟩:=h;cases rx;obtain⟨t,rfl⟩:=ry;obtain⟨its,r,pl,hz⟩:=I.list hq;obtain⟨j,h1,h2,h3,h4,h5⟩:=we he;obtain⟨w,ew,rw'⟩:=r.get h2;have hl:=r.length;have hn:=qN;have fin:EP X pins σ Q w s:=⟨z,H,I,rw',q⟩
 by_cases h0:0<=i
 ·have hj:i.toNat=j:=by
   rw [seqIndex_of h0 h5] at h1;exact MU h1
  exact item_listR pl.isList h0 (by omega) (by rw [hj];simpa using ew) fin hs
 ·have hj:(i+(its.toArray.size:Int)).toNat=j:=by
   rw [seqIndex_neg (by omega) h4] at h1;rw [MS,←hl];exact MU h1
  exact subscriptTail_builtinR (x:=w) pl.isList.typeIs slot_list_getitem.lookup
   (wpAny_getItem_list_neg (Q:=λ r s'=>r=w/\EP X pins σ Q r s') pl.isList (by omega) (by rw [MS]<;>omega) (by omega) (by rw [hj];simpa using ew) ⟨rfl,fin⟩) hs
theorem Ic:IxR X (LG X.K):=by
 intro value slice pins s σ H x y v u Q I rx ry h hs;obtain⟨p,xs,i,z,rfl,rfl,hq,he,q⟩:=h;cases rx;obtain⟨t,rfl⟩:=ry;obtain⟨its,r,pl,hz⟩:=I.tuple hq;obtain⟨j,h1,h2,h3,h4,h5⟩:=we he;obtain⟨w,ew,rw'⟩:=r.get h2;have hl:=r.length;have hn:=qN;have fin:EP X pins σ Q w s:=⟨z,H,I,rw',q⟩
 exact subscriptTail_builtinR (x:=w) pl.typeIs slot_tuple_getitem.lookup
  (getItem_tuple (j:=j) (Q:=λ r s'=>r=w/\EP X pins σ Q r s') pl (by omega) (by omega) (by rw [MS,←hl];exact h1) (by simpa using ew) ⟨rfl,fin⟩) hs
def gh:V->Bool
 | .non=>true
 | .bl _=>true
 | .int _=>true
 | .str _=>true
 | _=>false
def eqV:V->V->Bool
 | .non,.non=>true
 | .bl a,.bl b=>a == b
 | .bl a,.int b=>(if a then 1 else 0) == b
 | .int a,.bl b=>a == (if b then 1 else 0)
 | .int a,.int b=>a == b
 | .str a,.str b=>a == b
 | _,_=>false
theorem Ih{A:Around}{s:Shared}{y x:V}{u v:Value}(ry:bc y u)(rx:bc x v)(fy:gh y=true)(fx:gh x=true):SeqAt.EqAt A s u v (eqV y x):=by
 cases y with
 | non=>
  cases ry
  cases x with
  | non=>cases rx;exact SeqAt.EqAt.same _
  | bl b=>cases rx;exact SeqAt.EqAt.none_bool b
  | int b=>obtain⟨t,rfl⟩:=rx;exact SeqAt.EqAt.none_int b t
  | str b=>obtain⟨t,rfl⟩:=rx;exact SeqAt.EqAt.none_str b t
  | _=>exact absurd (show false=true from fx) Mj
 | bl a=>
  cases ry
  cases x with
  | non=>cases rx;exact SeqAt.EqAt.bool_none a
  | bl b=>cases rx;exact SeqAt.EqAt.bool_bool a b
  | int b=>obtain⟨t,rfl⟩:=rx;exact SeqAt.EqAt.bool_int a b t
  | str b=>obtain⟨t,rfl⟩:=rx;exact SeqAt.EqAt.bool_str a b t
  | _=>exact absurd (show false=true from fx) Mj
 | int a=>
  obtain⟨t',rfl⟩:=ry
  cases x with
  | non=>cases rx;exact SeqAt.EqAt.int_none a t'
  | bl b=>cases rx;exact SeqAt.EqAt.int_bool a t' b
  | int b=>obtain⟨t,rfl⟩:=rx;exact SeqAt.EqAt.int_int a t' b t
  | str b=>obtain⟨t,rfl⟩:=rx;exact SeqAt.EqAt.int_str a t' b t
  | _=>exact absurd (show false=true from fx) Mj
 | str a=>
  obtain⟨t',rfl⟩:=ry
  cases x with
  | non=>cases rx;exact SeqAt.EqAt.str_none a t'
  | bl b=>cases rx;exact SeqAt.EqAt.str_bool a t' b
  | int b=>obtain⟨t,rfl⟩:=rx;exact SeqAt.EqAt.str_int a t' b t
  | str b=>obtain⟨t,rfl⟩:=rx;exact SeqAt.EqAt.str_str a t' b t
  | _=>exact absurd (show false=true from fx) Mj
 | _=>exact absurd (show false=true from fy) Mj
def eqU(x:V)(u:Value):Bool:=match u with
 | .none=>eqV .non x
 | .bool b=>eqV (.bl b) x
 | .int i _=>eqV (.int i) x
 | .str z _=>eqV (.str z) x
 | _=>false
theorem Bz{x y:V}{u:Value}(r:bc y u)(f:gh y=true):eqU x u=eqV y x:=by
 cases y with
 | non=>cases r;rfl
 | bl b=>cases r;rfl
 | int i=>obtain⟨t,rfl⟩:=r;rfl
 | str z=>obtain⟨t,rfl⟩:=r;rfl
 | _=>exact absurd (show false=true from f) Mj
theorem qc{x:V}:∀ {xs:List V}{us:List Value},br xs us->xs.all gh=true->us.any (eqU x)=xs.any λ y=>eqV y x
 | _,_,.nil,_=>rfl
 | y::xs,u::us,.cons r t,f=>by
  rw [List.all_cons,Od] at f;rw [any_cons,any_cons,Bz r f.1,qc t f.2]
theorem mI{A:Around}{s:Shared}{x:V}{v:Value}(rx:bc x v)(fx:gh x=true):∀ {xs:List V}{us:List Value},br xs us->xs.all gh=true->∀ u∈us,SeqAt.EqAt A s u v (eqU x u)
 | _,_,.nil,_=>λ u hu=>by cases hu
 | y::xs,u::us,.cons r t,f=>λ u' hu=>by
  rw [List.all_cons,Od] at f
  rcases ML.mp hu with rfl|hu
  ·rw [Bz r f.1];exact Ih r rx f.1 fx
  ·exact mI rx fx t f.2 u' hu
def inV(x:V)(xs:List V):Bool:=xs.any λ y=>eqV y x
def rIn(K:W.Frag)(neg:Bool):R2:=λ x y H Q=>∃ p xs,y=.ref p/\(SqL K H p xs\/SqT K H p xs)/\gh x=true/\xs.all gh=true/\Q (.bl (if neg then !inV x xs else inV x xs)) H
theorem wK:OpR X (compareOp .In) (rIn X.K false):=by
 intro pins s σ H x y v u Q I rx ry h;obtain⟨p,xs,rfl,hq,fx,fs,q⟩:=h;cases ry
 rcases hq with hq|hq
 ·obtain⟨its,r,pl,hz⟩:=I.list hq;refine SeqAt.in_listAt (eqU x) pl.isList (λ w hw=>mI rx fx r fs w (by simpa using hw)) ⟨.bl _,H,I,rfl,?_⟩;rw [show its.toArray.any (eqU x)=its.any (eqU x) by simp,qc r fs];exact q
 ·obtain⟨its,r,pl,hz⟩:=I.tuple hq;refine SeqAt.in_tupleAt (eqU x) pl (λ w hw=>mI rx fx r fs w (by simpa using hw)) ⟨.bl _,H,I,rfl,?_⟩;rw [show its.toArray.any (eqU x)=its.any (eqU x) by simp,qc r fs];exact q
theorem dA:bO X (.builtin "len") (λ xs H Q=>∃ p ys,xs=[.ref p]/\(SqL X.K H p ys\/SqT X.K H p ys)/\Q (.int ys.length) H):=by
 intro pins s σ H xs us Q I r h;obtain⟨p,ys,rfl,hq,q⟩:=h;obtain⟨u,rfl,rx⟩:=uq r;cases rx;have hn:=qN
 rcases hq with hq|hq
 ·obtain⟨its,r',pl,hz⟩:=I.list hq;have hlen:=r'.length;exact Calls.call_len_list pl.isList (by simp only [MS]<;>omega) ⟨.int ys.length,H,I.tok _,⟨s.toks+1,by rw [MS,hlen]⟩,q⟩
 ·obtain⟨its,r',pl,hz⟩:=I.tuple hq;have hlen:=r'.length;exact len_tuple pl (by simp only [MS]<;>omega) ⟨.int ys.length,H,I.tok _,⟨s.toks+1,by rw [MS,hlen]⟩,q⟩
theorem pd:bO X (.builtin "len") (λ xs H Q=>∃ z,xs=[.str z]/\z.length<=sizeLine/\Q (.int z.length) H):=by
 intro pins s σ H xs us Q I r h;obtain⟨z,rfl,hz,q⟩:=h;obtain⟨u,rfl,t,rfl⟩:=uq r;have hn:=qN;exact len_str (by omega) ⟨.int z.length,H,I.tok _,⟨_,rfl⟩,q⟩
theorem bO.or{f:Value}{r r':List V->Hp->VK->Prop}(h:bO X f r)(h':bO X f r'):bO X f (λ xs H Q=>r xs H Q\/r' xs H Q):=by
 intro pins s σ H xs us Q I rs q
 rcases q with q|q
 ·exact h pins s σ H xs us Q I rs q
 ·exact h' pins s σ H xs us Q I rs q
theorem o9:bO X (.type "list") (λ xs H Q=>∃ p ys,xs=[.ref p]/\(SqL X.K H p ys\/SqT X.K H p ys)/\∀ l,H l=none->Q (.ref l) (upd H l (.lst ys))):=by
 intro pins s σ H xs us Q I r h;obtain⟨p,ys,rfl,hq,q⟩:=h;obtain⟨u,rfl,rx⟩:=uq r;cases rx
 have fin:∀ (its:List Value),br ys its->ys.length<=sizeLine->∀ (h':Heap) (c':Nat),(∀ b o',s.heap.get? b=some o'->h'.get? b=some o') →
   h'.get? s.heap.objs.size=some { cls:=.type "list",dict:=none,data:=.seq its.toArray c',slots:=#[] }->EP X pins σ Q (.ref s.heap.objs.size) { s with heap:=h' }:=λ its r' hz h' c' kp e=>
  ⟨.ref s.heap.objs.size,_,I.laid (t':=s.toks) kp (Mb _) (show aV X.prog X.w _ h' _ (.lst ys) from ⟨hz,its,c',r',e⟩),rfl,q _ (I.hok.fresh (Mb _))⟩
 rcases hq with hq|hq
 ·obtain⟨its,r',pl,hz⟩:=I.list hq;have hlen:=r'.length;obtain⟨o,ho,hc,n,hd⟩:=pl.isList;exact call_list_seq p (.inl rfl) ho hc hd (λ h' c' kp e=>fin its r' hz h' c' kp e) (by simp only [MS]<;>omega)
 ·obtain⟨its,r',pl,hz⟩:=I.tuple hq;have hlen:=r'.length;obtain⟨o,ho,hc,n,hd⟩:=pl;exact call_list_seq p (.inr rfl) ho hc hd (λ h' c' kp e=>fin its r' hz h' c' kp e) (by simp only [MS]<;>omega)
def tyV(K:W.Frag)(T:String)(x:V)(H:Hp):Prop:=match x with
 | .str _=>T = "str"
 | .int _=>T = "int"
 | .ref p=>(T = "list" /\ ∃ xs,SqL K H p xs)\/(T = "tuple" /\ ∃ o,K.lookup p=some o/\o.cls=.type "tuple" /\ o.dict=none) \/
   (T = "dict" /\ ((∃ kvs,H p=some (.dK kvs))\/∃ kvs,H p=some (.dT kvs)))\/(T = "set" /\ ∃ S n,H p=some (.set S n))
 | _=>False
theorem A5{pins:List (Addr × Obj)}{σ:St}{H:Hp}{s:Shared}{T:String}{x:V}{v:Value}(I:Inv X pins σ H s)(r:bc x v)(ty:tyV X.K T x H) :
  s.TypeIs v T/\∀ a,v=.ref a->∃ ob,s.heap.get? a=some ob/\ob.dict=none:=by
 cases x with
 | str z=>
  obtain⟨t,rfl⟩:=r;cases (show T = "str" from ty);exact⟨typeIs_str s z t,λ _ e=>nomatch e⟩
 | int i=>
  obtain⟨t,rfl⟩:=r;cases (show T = "int" from ty);exact⟨typeIs_int s i t,λ _ e=>nomatch e⟩
 | ref p=>
  cases r
  rcases ty with ⟨rfl,xs,hq⟩|⟨rfl,o,hk,hc,hd⟩|⟨rfl,hk⟩|⟨rfl,S,n,hk⟩
  ·obtain⟨its,_,pl,_⟩:=I.list hq;refine⟨pl.isList.typeIs,λ a e=>?_⟩;cases e;obtain⟨o,n,e,c,hd,_⟩:=pl;exact⟨o,e,hd⟩
  ·refine⟨⟨o,I.kIn p o hk,hc⟩,λ a e=>?_⟩;cases e;exact⟨o,I.kIn _ o hk,hd⟩
  ·have z:∃ o,s.heap.get? p=some o/\o.ExactDict:=by
    rcases hk with ⟨kvs,hk⟩|⟨kvs,hk⟩
    ·obtain⟨_,_,_,_,o,_,_,e,ex,_⟩:=I.hok p _ hk;exact⟨o,e,ex⟩
    ·obtain⟨_,_,_,_,o,_,_,e,ex,_⟩:=I.hok p _ hk;exact⟨o,e,ex⟩
   obtain⟨o,e,ex⟩:=z;refine⟨⟨o,e,ex.1⟩,λ a e2=>?_⟩;cases e2;exact⟨o,e,ex.2.1⟩
  ·obtain⟨o,_,_,_,e,ex,_⟩:=I.hok p _ hk;refine⟨⟨o,e,ex.1⟩,λ a e2=>?_⟩;cases e2;exact⟨o,e,ex.2.1⟩
 | _=>exact False.elim ty
def KY(K:W.Frag)(T:String)(r:V->List V->Hp->VK->Prop)(to:TE):TE:=λ σ H Q=>to σ H λ x H1=>tyV K T x H1/\r x [] H1 Q
def tBM(K:W.Frag)(T:String)(r:V->List V->Hp->VK->Prop)(to:TE)(t:TA):TE:=λ σ H Q=>to σ H λ x H1=>tyV K T x H1/\t σ H1 λ xs H2=>r x xs H2 Q
variable {o e:Expr}{es:List Expr}{to:TE}{t:TA}{name:Str}{apos cpos:Pos}{T id:String}{r:V->List V->Hp->VK->Prop}
theorem Bf(pa:PlainAttrs T)(slot:Slot T name id)(hty:typeOf (.builtin id)=pure (.type "method_descriptor"))(hm:MtR X id r)(ho:PE X o to)
  (hbase:attributeBase o name X.env (eval o X.env)=eval o X.env:=by rfl) (hline:(apos.endLine == cpos.line)=true:=by rfl):PE X (.Call (.Attribute o name apos) [] [] cpos) (KY X.K T r to):=by
 intro pins s σ H Q I h;refine wpAny_Call_method0_late hbase hline (thn (ho pins s σ H _ I h) λ v s1 ⟨x,H1,I1,r1,ty,q1⟩=>?_);obtain⟨h1,h2⟩:=A5 I1 r1 ty;exact⟨T,id,pa,slot,hty,h1,h2,Calls.callWith_builtin rfl (PySem.evalArgs_none (hm pins s1 σ H1 x [] v [] Q I1 r1 .nil q1))⟩
theorem JK(pa:PlainAttrs T)(slot:Slot T name id)(hty:typeOf (.builtin id)=pure (.type "method_descriptor"))(hm:MtR X id r)(ho:PE X o to)(ha:PA X (e::es) t)
  (hbase:attributeBase o name X.env (eval o X.env)=eval o X.env:=by rfl)
  (hfew:((backTo cpos (starEach (e::es) X.env)).all (λ x=>!x.1) && (backToKw cpos (keywordEach [] X.env)).all (λ x=>x.1.isSome)
   && decide ((e::es).length+([]:List Keyword).length+(if ([]:List Keyword).isEmpty then 0 else 1) < 30))=true:=by rfl)
  (hline:(apos.endLine == cpos.line)=true:=by rfl) (hs:starEach (e::es) X.env=(false,eval e X.env)::starEach es X.env:=by rfl) (hplain:(backTo cpos (starEach es X.env)).any (·.1)=false:=by rfl) :
  PE X (.Call (.Attribute o name apos) (e::es) [] cpos) (tBM X.K T r to t):=by
 intro pins s σ H Q I h;refine wpAny_Call_method_late hbase hfew hline rfl (thn (ho pins s σ H _ I h) λ v s1 ⟨x,H1,I1,r1,ty,q1⟩=>?_);obtain⟨h1,h2⟩:=A5 I1 r1 ty;refine⟨T,id,pa,slot,hty,h1,h2,?_⟩;have hA:=ha cpos pins s1 σ H1 _ I1 q1;rw [hs] at hA ⊢;refine Calls.callWith_builtin (by show (false || (backTo cpos (starEach es X.env)).any (·.1))=false;rw [hplain]<;>rfl) (OT ?_);exact thn hA λ us s2 ⟨vs,H2,I2,r2,q2⟩=>hm pins s2 σ H2 x vs v us Q I2 r1 r2 q2
end
def MtM(X:Cx)(id:String)(r:V->List V->Hp->VK->Prop):Prop:=
 ∀ (pins:List (Addr × Obj)) (s:Shared) (σ:St) (H:Hp) (x:V) (xs:List V) (v:Value) (us:List Value) (Q:VK),Inv X pins σ H s->bc x v->br xs us->r x xs H Q →
  wpAny (model X.prog X.w) X.A (call (.builtin id) (v::us)) (EP X pins σ Q) X.xe s
theorem br.one:∀ {x:V}{us:List Value},br [x] us->∃ u,us=[u]/\bc x u
 | _,_,.cons r .nil=>⟨_,rfl,r⟩
theorem br.zero:∀ {us:List Value},br [] us->us=[]
 | _,.nil=>rfl
theorem br.reverse{xs:List V}{us:List Value}(h:br xs us):br xs.reverse us.reverse:=by
 induction h with
 | nil=>exact .nil
 | cons r t ih=>rw [List.reverse_cons,List.reverse_cons];exact br.append ih (.cons r .nil)
theorem br.rep{xs:List V}{us:List Value}(h:br xs us):∀ k:Nat,br (List.replicate k xs).flatten (List.replicate k us).flatten
 | 0=>.nil
 | k+1=>by
  rw [Ni,Ni,NO,NO];exact br.append h (br.rep h k)
theorem om(its:List Value):∀ (k:Nat) (acc:List Value),
  List.foldl (λ x1 x2=>x1++x2) acc.toArray (List.replicate k its.toArray)=(acc++(List.replicate k its).flatten).toArray
 | 0,acc=>by simp
 | k+1,acc=>by
  have e:acc.toArray++its.toArray=(acc++its).toArray:=by simp
  have e2:(acc++its)++(List.replicate k its).flatten=acc++(List.replicate (k+1) its).flatten:=by
   rw [Ni,NO,List.append_assoc]
  rw [←e2,←om its k (acc++its),←e,Ni,OD]
section
variable {X:Cx}{pins:List (Addr × Obj)}{σ:St}{H:Hp}{s:Shared}{l b:Addr}{xs ys zs:List V}
theorem Inv.lset{its its':List Value}{n:Nat}{f:Array Value->Array Value}{t':Nat}(I:Inv X pins σ H s)(hH:H l=some (.lst xs))
  (e:s.heap.get? l=some { cls:=.type "list",data:=.seq its.toArray n }) (hf:f its.toArray=its'.toArray) (hv:br ys its') (hz:ys.length<=sizeLine) :
  Inv X pins σ (upd H l (.lst ys)) { s with heap:=s.heap.update l (Obj.mapSeq f),toks:=t' }:=by
 have q:=PySem.IsL.update e f;rw [hf] at q;refine I.write (x:=l) (e:=l) (by rw [hH];exact trivial) (.inl rfl) (λ b' u hb hu=>(MO s.heap (Obj.mapSeq f) (NA hb)).trans hu) ⟨_,q⟩ ?_;exact⟨hz,its',_,hv,q⟩
theorem Inv.lnew{its:List Value}{t':Nat}(I:Inv X pins σ H s)(hv:br ys its)(hz:ys.length<=sizeLine) :
  Inv X pins σ (upd H s.heap.objs.size (.lst ys)) { s with heap:=s.heap.push { cls:=.type "list",data:=.seq its.toArray },toks:=t' }:=
 I.laid (λ _ _ q=>Ma _ q) (Mb _) ⟨hz,its,0,hv,Mn _ rfl⟩
theorem Inv.fresh(I:Inv X pins σ H s):H s.heap.objs.size=none:=I.hok.fresh (Mb _)
theorem Inv.lstM(I:Inv X pins σ H s)(hH:H l=some (.lst xs)):xs.length<=sizeLine/\∃ (its:List Value) (n:Nat),br xs its/\xs.length=its.length/\s.heap.get? l=some { cls:=.type "list",data:=.seq its.toArray n }:=by
 obtain⟨z,its,n,r,e⟩:=I.hok l _ hH;exact⟨z,its,n,r,r.length,e⟩
theorem rD{n:Nat}(h:n<=sizeLine):Builtin.List.listTooLong n=false:=by
 unfold Builtin.List.listTooLong;exact decide_eq_false (by omega)
end
section
variable {X:Cx}
def vE:V->List V->Hp->VK->Prop:=λ x vs H Q=>∃ l xs y,x=.ref l/\vs=[y]/\H l=some (.lst xs)/\xs.length < sizeLine/\Q .non (upd H l (.lst (xs++[y])))
theorem bo:MtM X "list.append" vE:=by
 intro pins s σ H x vs v us Q I rx rv h;obtain⟨l,xs,y,rfl,rfl,hH,hz,q⟩:=h;cases rx;obtain⟨u,rfl,ru⟩:=rv.one;obtain⟨z,its,n,r,hl,e⟩:=I.lstM hH;refine call_meets F.slot_list_append ⟨_,e,rfl⟩ F.entry_list_append (F.args_list_append_2 _ _) (PySem.list_append l its.toArray n u (by rw [MS];omega)) ⟨e,?_⟩;refine⟨.non,_,I.lset (its':=its++[u]) hH e (by simp) (r.append (.cons ru .nil)) ?_,rfl,q⟩;rw [Ml,Mv];omega
def vD:V->List V->Hp->VK->Prop:=λ x vs H Q=>∃ l b xs zs,x=.ref l/\vs=[.ref b]/\H l=some (.lst xs)/\H b=some (.lst zs)/\xs.length+zs.length<=sizeLine/\Q .non (upd H l (.lst (xs++zs)))
theorem fg:MtM X "list.extend" vD:=by
 intro pins s σ H x vs v us Q I rx rv h;obtain⟨l,b,xs,zs,rfl,rfl,hH,hB,hz,q⟩:=h;cases rx;obtain⟨u,rfl,ru⟩:=rv.one;cases ru;obtain⟨z,its,n,r,hl,e⟩:=I.lstM hH;obtain⟨z2,its2,n2,r2,hl2,e2⟩:=I.lstM hB;have hsz:its.toArray.size+its2.toArray.size<=sizeLine:=by rw [MS,MS];omega
 have hlong:¬ (!its.toArray.isEmpty && Builtin.List.listTooLong (its.toArray.size+its2.toArray.size))=true:=by
  rw [rD hsz,Bool.and_false];exact Mj
 refine call_meets F.slot_list_extend ⟨_,e,rfl⟩ F.entry_list_extend (F.args_list_extend_2 _ _)
  (AutoSeq1.list_extend_list_list_0 l its.toArray n b its2.toArray n2 hlong (by rw [MS];omega) (by omega)) ⟨e,e2,?_⟩
 refine⟨.non,_,I.lset (its':=its++its2) hH e (by simp) (r.append r2) ?_,rfl,q⟩;rw [Ml];omega
def rk:V->List V->Hp->VK->Prop:=λ x vs H Q=>∃ l xs,x=.ref l/\vs=[]/\H l=some (.lst xs)/\Q .non (upd H l (.lst xs.reverse))
theorem kZ:MtM X "list.reverse" rk:=by
 intro pins s σ H x vs v us Q I rx rv h;obtain⟨l,xs,rfl,rfl,hH,q⟩:=h;cases rx;have hus:=rv.zero;subst hus;obtain⟨z,its,n,r,hl,e⟩:=I.lstM hH;refine call_meets F.slot_list_reverse ⟨_,e,rfl⟩ F.entry_list_reverse (F.args_list_reverse_1 _) (AutoSeq1.list_reverse_list_0 l its.toArray n (by rw [MS];omega)) ⟨e,?_⟩;refine⟨.non,_,I.lset (its':=its.reverse) hH e (by simp) r.reverse ?_,rfl,q⟩;rw [OJ];omega
def K0:R2:=λ x y H Q=>∃ l b xs zs,x=.ref l/\y=.ref b/\H l=some (.lst xs)/\H b=some (.lst zs)/\xs.length+zs.length<=sizeLine/\∀ p,H p=none->Q (.ref p) (upd H p (.lst (xs++zs)))
theorem Gu:OpR X (binaryOp .Add) K0:=by
 intro pins s σ H x y v u Q I rx ry h;obtain⟨l,b,xs,zs,rfl,rfl,hH,hB,hz,q⟩:=h;cases rx;cases ry;obtain⟨z,its,n,r,hl,e⟩:=I.lstM hH;obtain⟨z2,its2,n2,r2,hl2,e2⟩:=I.lstM hB;refine PySem.P.add_list e e2 ?_ (by rw [MS,MS];omega);have ea:its.toArray++its2.toArray=(its++its2).toArray:=by simp
 rw [ea];exact⟨.ref _,_,I.lnew (t':=s.toks) (r.append r2) (by rw [Ml];omega),rfl,q _ I.fresh⟩
def LD:R2:=λ x y H Q=>∃ l k xs,x=.ref l/\y=.int k/\H l=some (.lst xs)/\-(2 ^ 63)<=k/\k < 2 ^ 63/\xs.length * k.toNat<=sizeLine /\
 ∀ p,H p=none->Q (.ref p) (upd H p (.lst (List.replicate k.toNat xs).flatten))
theorem Ea{α:Type}(xs:List α)(k:Nat):(List.replicate k xs).flatten.length=k * xs.length:=by
 induction k with
 | zero=>simp
 | succ k ih=>rw [Ni,NO,Ml,ih,Nat.succ_mul,Nat.add_comm]
theorem Gk:OpR X (binaryOp .Mult) LD:=by
 intro pins s σ H x y v u Q I rx ry h;obtain⟨l,k,xs,rfl,rfl,hH,h1,h2,hz,q⟩:=h;cases rx;obtain⟨t,rfl⟩:=ry;obtain⟨z,its,n,r,hl,e⟩:=I.lstM hH;have hlen:its.toArray.size * k.toNat<=sizeLine:=by rw [MS,←hl];exact hz
 have hcap:¬ its.toArray.size * k.toNat > (2 ^ 63 - 1) / 8:=by
  have:(sizeLine:Nat)<=(2 ^ 63 - 1) / 8:=by decide
  omega
 have hfit:¬ (!Builtin.List.listFitsIndex k)=true:=by
  rw [fitsIndex_both h1 h2];exact Mj
 have hlong:¬ Builtin.List.listTooLong (its.toArray.size * k.toNat)=true:=by
  rw [rD hlen];exact Mj
 have hnew:List.foldl (λ x1 x2=>x1++x2) #[] (List.replicate (if its.toArray.isEmpty=true then 0 else k.toNat) its.toArray)=(List.replicate k.toNat its).flatten.toArray:=by
  have f0:∀ m:Nat,List.foldl (λ x1 x2=>x1++x2) #[] (List.replicate m its.toArray)=(List.replicate m its).flatten.toArray:=λ m=>by
   have:=om its m [];rw [List.nil_append] at this;exact this
  rw [f0]
  cases its with
  | nil=>simp
  | cons a r'=>rw [Mw (by simp)]
 refine wpAny_binaryOp_repeat_ref (T := "list") (U := "int") (by decide) ⟨_,e,rfl⟩ (λ s'=>typeIs_int s' k t) noFill_list_mul F.fills_int_mul F.slot_int_rmul repeat_list F.slot_int_index.lookup
  (call_meets F.slot_int_rmul (typeIs_int s k t) F.entry_int_rmul (F.args_int_rmul_2 _ _) (int___rmul___int_list k t l its.toArray n)
   ⟨e,rfl,⟨_,e,rfl⟩,call_meets F.slot_list_mul ⟨_,e,rfl⟩ F.entry_list_mul (F.args_list_mul_2 _ _) (AutoListH.list___mul___list_int_3 l its.toArray n k t hfit hcap hlong) ⟨e,?_⟩⟩)
 rw [hnew];exact⟨.ref _,_,I.lnew (t':=s.toks) (r.rep k.toNat) (by rw [Ea,Nat.mul_comm];exact hz),rfl,q _ I.fresh⟩
end
section
variable {prog:Program}{w:World}{A:Around}{E:Value->Shared->Prop}{s:Shared}
end
section
variable {X:Cx}
end
end L2
namespace Att
open PySem PySem.W PySem.Calls PyProof.Rows
theorem kg{P:Params}{h:Heap}:∀ (ns:List Int) (vs:List Value),WellAll P h vs (ns.map WData.int)->IntsAre vs ns:=by
 intro ns
 induction ns with
 | nil=>
  intro vs w;rw [map_nil] at w;cases w;exact .nil
 | cons n ns ih=>
  intro vs w;rw [Nj] at w
  cases w with
  | cons a b=>
   cases a;exact .cons _ _ (ih _ b)
theorem wz{l:OpenLaw}{n:Nat}(hn:l.most=some n){P:Params}{h:Heap}{args:List WData}{vals:List Value}
  (hpre:l.row.toRowW.claim.pre args=true) (hwl:WellAll P h vals args) :
  ∃ a vs ns,vals=[Value.ref a]/\args=[WData.list (ns.map WData.int)]/\h.get? a=some { cls:=.type "list",data:=.seq vs.toArray }/\IntsAre vs ns/\ns.length<=n:=by
 have hsh:WShape.hasAll [] args [.list .int]=true:=(pre_splitW hpre).1;have hc:l.pre.holds [] { args:=args }=true:=(pre_splitW hpre).2;obtain⟨d,r,rfl,h1,h2⟩:=hasAllW_cons hsh;obtain rfl:=hasAllW_nil h2;obtain⟨xs,rfl,h3⟩:=hasW_list h1;obtain⟨ns,rfl⟩:=items_int h3
 have hlen:ns.length<=n:=by
  unfold OpenLaw.pre at hc
  have h4:(WTm.not (.lt (.lit (.int (n:Int))) (.len (.arg 0)))).holds [] { args:=[.list (ns.map .int)] }=true:=by
   have h4:=(holds_andW hc).1;rw [hn] at h4;exact h4
  have h5:=condW_of h4 (w_not (w_lt w_lit (w_len_list (w_arg rfl))));rw [Md] at h5;refine Ox λ q=>?_;have q':(n:Int) < ((ns.length:Nat):Int):=by omega
  first
   | (rw [MW q'] at h5;exact absurd h5 (by decide))
   | (simp at h5;omega)
 cases hwl with
 | cons w1 w2=>
  cases w2
  cases w1 with
  | list ho hall=>exact⟨_,_,ns,rfl,rfl,ho,kg ns _ hall,hlen⟩
theorem wC(l:OpenLaw)(args:List WData):l.row.toRowW.claim.post args (.bool true) args=true:=
 postW_of (r:=l.row.toRowW) (X:=(true == true))
  (show WShape.has [] (.bool true) .bool=true by first|rfl|decide|simp [WShape.has,WShape.arms,WShape.armsAll])
  (show (WTm.eq .res (.lit (.bool true))).value [] { args:=args,res:=some (.bool true),after:=args }=some (.bool (true == true)) from w_eq_bool (w_res rfl) w_lit) rfl
theorem attach_call{l:OpenLaw}{n:Nat}{q:Program}{loose:List Str}{XP:(Str->Option Value)->Heap->Prop}{YP:World->Heap->Prop}{d:DefRec}
  (hn:l.most=some n) (hdf:d.params.defaults=[])
  (call:∀ (w:World) (s₀ s₁:Shared) (mg mb:Str->Option Value) (fa:Addr) (o:Obj) (pm cd doc:Value) (a:Addr) (vs:List Value) (ns:List Int),
   Ground q loose [] XP w s₀ mg mb s₁.heap->YP w s₁.heap →
   s₁.heap.get? fa=some o->o.data=.func (docDef d.name d.params d.body d.scope pm cd doc)->s₁.heap.CodeRec cd d.name->mg d.name=some (.ref fa) →
   s₁.heap.get? a=some { cls:=.type "list",data:=.seq vs.toArray }->IntsAre vs ns->ns.length<=n->s₁.gens=#[] →
   codeAny (model l.prog w) callerA (.call (.ref fa) ⟨[.ref a],[]⟩) (λ r s'=>r=.ok (.ret (.bool true))/\OldK s₁.heap s'.heap/\s'.os=s₁.os/\AllBare s'.gens) s₁) :
  WalkO q loose XP YP l.row.toRowW d [] (λ f vs=>PySem.call f vs):=by
 intro w s₀ s₁ mg mb G Y fa o pm cd doc dV kV ho hd hcd hD hmg hg args vals as hpre hlay hrd hwl hlo;obtain rfl:dV=.none:=Dflts.none hD hdf;obtain rfl:kV=.none:=Dflts.noKw hD;obtain⟨a,vs,ns,rfl,rfl,hobj,hints,hlen⟩:=wz hn hpre hwl;refine enter_call (NJ (call w s₀ s₁ mg mb fa o pm cd doc a vs ns G Y ho (fd_plain hd) hcd hmg hobj hints hlen hg) λ r s' hq=>?_);obtain⟨rfl,h2,h3,h4⟩:=hq;exact⟨.inl ⟨.bool true,.bool true,[],rfl,λ _=>rfl,.bool true,wC l _,λ _=>⟨List.Pairwise.nil,λ _ hm=>(nomatch hm)⟩⟩,h2,h3,h4⟩
section
variable {prog:Program}{w:World}{A:Around}{E:Value->Shared->Prop}{s:Shared}{K:Frag}
def Lx(h:Heap)(L d:Addr):List (Addr × Obj):=(List.range h.objs.size).filterMap λ a=>if a=L\/a=d then none else (h.get? a).map λ o=>(a,o)
end
end Att
namespace L2
open PySem PySem.Spec PyProof.Rows
theorem nR:∀ {vs:List Value}{ns:List Int},IntsAre vs ns->br (ns.map V.int) vs
 | _,_,.nil=>.nil
 | _,_,.cons n t h=>.cons ⟨t,rfl⟩ (nR h)
abbrev KOf{K:PySem.W.Frag}{h:Heap}(_:K.In h):PySem.W.Frag:=K
def aP(s:Stmt)(j:Nat):Stmt:=match s with
 | .ClassDef _ _ _ body _ _ _ _ _ _ _=>body.getD j (.Pass ⟨0,0,0,0⟩)
 | _=>.Pass ⟨0,0,0,0⟩
def ez(s:Stmt):Arguments:=match s with
 | .FunctionDef _ a _ _ _ _ _ _ _ _=>a
 | _=>{ posonlyargs:=[],args:=[],vararg:=none,kwonlyargs:=[],kw_defaults:=[],kwarg:=none,defaults:=[] }
def cj(s:Stmt):List Stmt:=match s with
 | .FunctionDef _ _ b _ _ _ _ _ _ _=>b
 | _=>[]
def aa(s:Stmt):Scope:=match s with
 | .FunctionDef _ _ _ _ _ _ sc _ _ _=>sc
 | _=>{ kind:=.function,names:=[],isGenerator:=false,isCoroutine:=false }
abbrev CX0:CXT:=λ _ _ _ _ _ _=>False
abbrev E0:XK:=λ _ _ _=>False
theorem bu{X:Cx}:iC CX0 X E0:=λ _ _ _ _ _ _ _ h=>h.elim
structure Fun(K:W.Frag)(x qual:Str)(st:Stmt)(f:Addr)(fd:FuncData):Prop where
 ex:∃ (oc:Value) (od:Option Addr) (kV doc pm:Value) (an:Option Addr) (cdv ct:Value) (osl:Array (Option Value)),
  fd=W.fnOf x qual (ez st) (cj st) (aa st) .none kV doc pm an cdv ct/\K.lookup f=some ⟨oc,od,.func fd,osl⟩/\W.codeIn K cdv qual=true
 kp:W.keepIn K (.ref f)=true
section
variable {P:Program}{w:World}{K:PySem.W.Frag}{mg:Str->Option Value}{base:Heap}
theorem Fun.ok{x qual:Str}{st:Stmt}{f:Addr}{fd:FuncData}{N ps:List Str}{k:Nat}{sp:Sp}(F:Fun K x qual st f fd)(S:aj N ps (aa st))(len:∀ vs H Q E,sp vs H Q E->vs.length=ps.length)
  (hbody:∀ (cdv:Value) (A:Around) (outer:List Env) (s:Shared) (H:Hp) (vs:List V) (Q:VK) (E:XK),fE k (A.deeper (envOfC qual (aa st) s.heap.objs.size f cdv))->sp vs H Q E →
   ∃ t,PSs (r6 CX0 P w K mg base N qual (aa st) f cdv A outer s H E).nox (cj st) t/\t { nx:=λ _ H'=>Q .non H',rt:=Q } (au N vs) H):aW P w K mg base CX0 (k+1) f fd ps sp:=by
 obtain⟨oc,od,kV,doc,pm,an,cdv,ct,osl,rfl,lk,hcd⟩:=F.ex;refine yX lk hcd S len λ A outer s H vs Q E hr hsp=>?_;obtain⟨t,h,q⟩:=hbody cdv A outer s H vs Q E hr hsp;exact⟨t,h.nox,q⟩
theorem Fun.binds{x qual:Str}{st:Stmt}{f:Addr}{fd:FuncData}{ps:List Str}(F:Fun K x qual st f fd)
  (h:∀ (kV doc pm:Value) (an:Option Addr) (cdv ct:Value) (us:List Value),us.length=ps.length->bindArgs (W.fnOf x qual (ez st) (cj st) (aa st) .none kV doc pm an cdv ct) ⟨us,[]⟩=pure (ps.zip us)):az K fd ps []:=by
 obtain⟨oc,od,kV,doc,pm,an,cdv,ct,osl,rfl,lk,hcd⟩:=F.ex;exact .all (h kV doc pm an cdv ct)
theorem vc{x qual:Str}{st:Stmt}{f:Addr}{oc:Value}{od an:Option Addr}{osl:Array (Option Value)}{kV doc pm cdv ct:Value}(l:K.lookup f=some ⟨oc,od,.func (W.fnOf x qual (ez st) (cj st) (aa st) .none kV doc pm an cdv ct),osl⟩)
  (c:W.codeIn K cdv qual=true) (k:W.keepIn K (.ref f)=true):Fun K x qual st f (W.fnOf x qual (ez st) (cj st) (aa st) .none kV doc pm an cdv ct):=⟨⟨oc,od,kV,doc,pm,an,cdv,ct,osl,rfl,l,c⟩,k⟩
end
theorem wy{n:Nat}(h:n<=1000):n < sizeLine:=Nat.lt_of_le_of_lt h (by decide)
section
variable {X:Cx}
theorem pv(i:Nat){x:Str}{pos:Pos}(hN:X.N[i]? = some x:=by rfl)(hv:Vis X.env.scope x:=by first|exact Or.inl rfl|exact Or.inr (Or.inl rfl)|exact Or.inr (Or.inr rfl))(hd:(x == ("__debug__":Str))=false:=by decide)
  (hcd:(x == ("__classdict__":Str))=false:=by decide):PE X (.Name x pos) (Ip i):=FY hN hv hd hcd
end
theorem Ln{c A B:Prop}[Decidable c](h1:c->A)(h2:¬ c->B):if c then A else B:=by
 by_cases h:c
 ·rw [My h];exact h1 h
 ·rw [Mw h];exact h2 h
def kB(H H':Hp):Prop:=∀ b o,H b=some o->H' b=some o
theorem kB.refl(H:Hp):kB H H:=λ _ _ h=>h
theorem kB.trans{H H1 H2:Hp}(a:kB H H1)(b:kB H1 H2):kB H H2:=λ c o h=>b c o (a c o h)
theorem kB.free{H H':Hp}(e:kB H H'){l:Addr}(h:H' l=Option.none):H l=Option.none:=by
 cases q:H l with
 | none=>rfl
 | some o=>
  rw [e l o q] at h;cases h
theorem kB.seq{K:W.Frag}{H H':Hp}{a:Addr}{xs:List V}(e:kB H H')(h:SqL K H a xs):SqL K H' a xs:=by
 rcases h with (h|⟨o,h⟩)|h
 ·exact .inl (.inl (e _ _ h))
 ·exact .inl (.inr ⟨o,e _ _ h⟩)
 ·exact .inr h
section
variable {κ:Type}[DecidableEq κ]
def eT(kvs:List (κ × V))(k:κ):Option V:=(kvs.find? λ kv=>decide (kv.1=k)).map (·.2)
def ky(kvs:List (κ × V))(k:κ)(v:V):List (κ × V):=
 if (kvs.any λ kv=>decide (kv.1=k))=true then kvs.map (λ kv=>if kv.1=k then (kv.1,v) else kv) else kvs++[(k,v)]
theorem bC{p:κ × V}{r:List (κ × V)}{k:κ}(e:p.1=k):eT (p::r) k=some p.2:=by simp [eT,Oe,e]
theorem bD{p:κ × V}{r:List (κ × V)}{k:κ}(e:¬ p.1=k):eT (p::r) k=eT r k:=by simp [eT,Oe,e]
theorem fG(k:κ):∀ kvs:List (κ × V),(kvs.any λ kv=>decide (kv.1=k))=(eT kvs k).isSome
 | []=>rfl
 | p::r=>by
  rw [any_cons]
  by_cases e:p.1=k
  ·simp only [bC e,MW e,Bool.true_or,Option.isSome_some]
  ·rw [bD e,MB e,OO];exact fG k r
theorem qV(k j:κ)(y:V):∀ kvs:List (κ × V),eT (kvs.map λ kv=>if kv.1=k then (kv.1,y) else kv) j=(eT kvs j).map λ x=>if j=k then y else x
 | []=>rfl
 | p::r=>by
  have ih:=qV k j y r;rw [Nj]
  by_cases h:p.1=k
  ·rw [My h]
   by_cases e:p.1=j
   ·rw [bC (p:=(p.1,y)) e,bC e,Nn,My (e.symm.trans h)]
   ·rw [bD (p:=(p.1,y)) e,bD e,ih]
  ·rw [Mw h]
   by_cases e:p.1=j
   ·rw [bC (p:=p) e,bC e,Nn,Mw (λ z=>h (e.trans z))]
   ·rw [bD (p:=p) e,bD e,ih]
theorem nS(k j:κ)(y:V):∀ kvs:List (κ × V),eT kvs k=none->eT (kvs++[(k,y)]) j=if j=k then some y else eT kvs j
 | [],_=>by
  by_cases e:k=j
  ·rw [My e.symm];exact bC (p:=(k,y)) e
  ·rw [Mw (λ z=>e z.symm)];exact bD (p:=(k,y)) e
 | p::r,hn=>by
  rw [O1];have hk:¬ p.1=k:=λ z=>by rw [bC z] at hn;cases hn
  rw [bD hk] at hn;have ih:=nS k j y r hn
  by_cases e:p.1=j
  ·rw [bC e,bC e,Mw (λ z=>hk (e.trans z))]
  ·rw [bD e,bD e,ih]
theorem zb(kvs:List (κ × V))(k j:κ)(y:V):eT (ky kvs k y) j=if j=k then some y else eT kvs j:=by
 unfold ky
 by_cases a:(kvs.any λ kv=>decide (kv.1=k))=true
 ·rw [My a,qV];rw [fG] at a
  by_cases e:j=k
  ·obtain⟨x,hx⟩:=NZ.mp a;rw [My e,e,hx,Nn,My rfl]
  ·rw [Mw e]
   cases eT kvs j with
   | none=>rfl
   | some x=>rw [Nn,Mw e]
 ·rw [Mw a];refine nS k j y kvs ?_;rw [fG] at a
  cases q:eT kvs k with
  | none=>rfl
  | some x=>rw [q] at a;exact(a rfl).elim
theorem jH(kvs:List (κ × V))(k:κ)(v:V):(ky kvs k v).length<=kvs.length+1:=by
 unfold ky;split
 ·rw [Md];omega
 ·rw [Ml,Nw,List.length_nil];omega
theorem zw{kvs:List (κ × V)}{k:κ}(v:V)(h:eT kvs k=none):ky kvs k v=kvs++[(k,v)]:=by
 unfold ky;rw [fG,h];exact if_neg (by decide)
theorem nA.isSome_eq{o:Option V}{u:Option Value}(r:nA o u):o.isSome=u.isSome:=by
 cases o with
 | none=>cases u with
  | none=>rfl
  | some _=>exact(show False from r).elim
 | some _=>cases u with
  | none=>exact(show False from r).elim
  | some _=>rfl
theorem KV.val{kvs:List (κ × V)}{vs:List (κ × Value)}(r:KV kvs vs)(k:κ):nA (eT kvs k) (valueAt vs k):=by
 unfold KV at r
 induction r with
 | nil=>exact True.intro
 | @cons p q ps qs h t ih=>
  obtain⟨h1,h2⟩:=h
  by_cases e:p.1=k
  ·have e':q.1=k:=h1.symm.trans e;have b:valueAt (q::qs) k=some q.2:=by simp [valueAt,Oe,e']
   rw [bC e,b];exact h2
  ·have e':¬ q.1=k:=λ z=>e (h1.trans z);have b:valueAt (q::qs) k=valueAt qs k:=by simp [valueAt,Oe,e']
   rw [bD e,b];exact ih
theorem KV.any{kvs:List (κ × V)}{vs:List (κ × Value)}(r:KV kvs vs)(k:κ):(kvs.any λ kv=>decide (kv.1=k))=vs.any λ kv=>decide (kv.1=k):=by
 unfold KV at r
 induction r with
 | nil=>rfl
 | cons h t ih=>rw [any_cons,any_cons,ih,h.1]
theorem KV.repl{kvs:List (κ × V)}{vs:List (κ × Value)}(r:KV kvs vs)(k:κ){y:V}{u:Value}(ry:bc y u) :
  KV (kvs.map λ kv=>if kv.1=k then (kv.1,y) else kv) (vs.map λ kv=>if kv.1=k then (kv.1,u) else kv):=by
 unfold KV at r ⊢
 induction r with
 | nil=>exact .nil
 | @cons p q ps qs h t ih=>
  rw [Nj,Nj];refine .cons ?_ ih;obtain⟨h1,h2⟩:=h
  by_cases e:p.1=k
  ·rw [My e,My (h1.symm.trans e)];exact⟨h1,ry⟩
  ·rw [Mw e,Mw (λ z=>e (h1.trans z))];exact⟨h1,h2⟩
theorem KV.put{kvs:List (κ × V)}{vs:List (κ × Value)}(r:KV kvs vs)(k:κ){y:V}{u:Value}(ry:bc y u):KV (ky kvs k y) (stored vs k u):=by
 unfold ky stored;rw [r.any k]
 by_cases e:(vs.any λ kv=>decide (kv.1=k))=true
 ·rw [My e,My e];exact r.repl k ry
 ·rw [Mw e,Mw e];exact Paired.snoc r ⟨rfl,ry⟩
theorem KV.length{kvs:List (κ × V)}{vs:List (κ × Value)}(r:KV kvs vs):kvs.length=vs.length:=OG r
end
theorem uz{P:Program}{w:World}{k:Key}{u:Value}(r:bc (kV k) u):(bP P w).is k u=true:=by
 cases k with
 | inl i=>obtain⟨t,e⟩:=(show ∃ t,u=Value.int i t from r);subst e;exact qk P w i t
 | inr x=>obtain⟨t,e⟩:=(show ∃ t,u=Value.str x t from r);subst e;exact qi P w x t
theorem oi{P:Program}{w:World}:∀ {ks:List Key}{us:List Value},br (ks.map kV) us->ItemsAre (bP P w) ks us
 | [],_,r=>by rw [map_nil] at r;cases r;exact .nil
 | k::ks,_,r=>by
  rw [Nj] at r
  cases r with
  | cons h t=>exact .cons (uz h) (oi t)
abbrev KT(H:Hp):List (List Key × V)->List (List Key × Addr × Value)->Prop:=Paired λ p q=>p.1=q.1/\H q.2.1=some (.tup (p.1.map kV))/\bc p.2 q.2.2
theorem KT.val{H:Hp}{kvs:List (List Key × V)}{xs:List (List Key × Addr × Value)}(r:KT H kvs xs)(k:List Key):nA (eT kvs k) ((atKey xs k).map (·.2)):=by
 induction r with
 | nil=>exact True.intro
 | @cons p q ps qs h t ih=>
  obtain⟨h1,_,h2⟩:=h
  by_cases e:p.1=k
  ·have e':q.1=k:=h1.symm.trans e;have b:atKey (q::qs) k=some q.2:=by simp [atKey,Oe,e']
   rw [bC e,b];exact h2
  ·have e':¬ q.1=k:=λ z=>e (h1.trans z);have b:atKey (q::qs) k=atKey qs k:=by simp [atKey,Oe,e']
   rw [bD e,b];exact ih
theorem KT.repl{H:Hp}{kvs:List (List Key × V)}{xs:List (List Key × Addr × Value)}(r:KT H kvs xs)(k:List Key){y:V}{u:Value}(ry:bc y u) :
  KT H (kvs.map λ kv=>if kv.1=k then (kv.1,y) else kv) (xs.map (putAt k u)):=by
 induction r with
 | nil=>exact .nil
 | @cons p q ps qs h t ih=>
  rw [map_cons,map_cons];refine .cons ?_ ih;obtain⟨h1,h2,h3⟩:=h;unfold putAt
  by_cases e:p.1=k
  ·rw [My e,My (h1.symm.trans e)];exact⟨h1,h2,ry⟩
  ·rw [Mw e,Mw (λ z=>e (h1.trans z))];exact⟨h1,h2,h3⟩
theorem KT.put{H:Hp}{kvs:List (List Key × V)}{xs:List (List Key × Addr × Value)}(r:KT H kvs xs)(k:List Key){b:Addr}{y:V}{u:Value}(hb:H b=some (.tup (k.map kV)))(ry:bc y u) :
  KT H (ky kvs k y) (storedH xs k b u):=by
 have e:(kvs.any λ kv=>decide (kv.1=k))=(atKey xs k).isSome:=by
  rw [fG,(r.val k).isSome_eq,OR]
 unfold ky storedH;rw [e]
 by_cases q:(atKey xs k).isSome=true
 ·rw [My q,My q];exact r.repl k ry
 ·rw [Mw q,Mw q];exact Paired.snoc r ⟨rfl,hb,ry⟩
theorem KT.keeps{H H':Hp}{kvs:List (List Key × V)}{xs:List (List Key × Addr × Value)}(r:KT H kvs xs)(ht:∀ b ys,H b=some (.tup ys)->H' b=some (.tup ys)):KT H' kvs xs:=
 Paired.mapP r λ _ _ z=>⟨z.1,ht _ _ z.2.1,z.2.2⟩
section
variable {P:Program}{w:World}{H:Hp}{h:Heap}{a:Addr}
theorem Fe{u:HO}(ok:HOk P w H h)(e:Rd H a u):aV P w H h a u:=e.ok ok
theorem uG{kvs:List (Key × V)}(ok:HOk P w H h)(e:Rd H a (.dK kvs)):kvs.length<=sizeLine/\(a == sysModules)=false/\∃ vs,KV kvs vs/\h.DictOf (bP P w) a vs:=
 show aV P w H h a (.dK kvs) from Fe ok e
theorem KG{kvs:List (Key × V)}(ok:HOk P w H h)(e:H a=some (.dK kvs)):kvs.length<=sizeLine/\(a == sysModules)=false/\∃ vs,KV kvs vs/\h.DictOf (bP P w) a vs:=uG ok (.inl e)
theorem nN{ks:List Key}(ok:HOk P w H h)(e:H a=some (.tup (ks.map kV))):(tupleKind (bP P w)).is h ks a:=by
 obtain⟨_,its,r,o,h1,h2,n,h3⟩:=(show aV P w H h a (.tup (ks.map kV)) from ok a _ e);exact⟨o,its.toArray,n,h1,h2,h3,by simpa using oi r⟩
theorem uF{kvs:List (List Key × V)}(ok:HOk P w H h)(e:Rd H a (.dT kvs)):kvs.length<=sizeLine/\(a == sysModules)=false /\
  ∃ xs,KT H kvs xs/\h.DictOfH (tupleKind (bP P w)) a xs:=by
 obtain⟨z,y,xs,r,o,es,ep,h1,h2,h3,h4,h5⟩:=(show aV P w H h a (.dT kvs) from Fe ok e);refine⟨z,y,xs,r,o,es,ep,h1,h2,h3,h4,λ x hx=>?_,h5⟩
 have all:∀ {l:List (List Key × V)} {m:List (List Key × Addr × Value)},KT H l m->∀ x∈m,(tupleKind (bP P w)).is h x.1 x.2.1:=by
  intro l m q
  induction q with
  | nil=>intro x hx;exact nomatch hx
  | @cons p q ps qs hq t ih=>
   intro x hx
   rcases ML.mp hx with e|hx
   ·subst e;exact nN ok (by rw [←hq.1];exact hq.2.1)
   ·exact ih x hx
 exact all r x hx
theorem KD{kvs:List (List Key × V)}(ok:HOk P w H h)(e:H a=some (.dT kvs)):kvs.length<=sizeLine/\(a == sysModules)=false /\
  ∃ xs,KT H kvs xs/\h.DictOfH (tupleKind (bP P w)) a xs:=uF ok (.inl e)
end
def uo(H:Hp)(a:Addr)(y:V)(r:Option V):Prop:=
 (∃ kvs k,Rd H a (.dK kvs)/\y=kV k/\r=eT kvs k)\/∃ kvs k b,Rd H a (.dT kvs)/\y=.ref b/\H b=some (.tup (k.map kV))/\r=eT kvs k
def EN(H:Hp)(a:Addr)(y v:V)(H':Hp):Prop:=
 (∃ kvs k,H a=some (.dK kvs)/\y=kV k/\kvs.length < sizeLine/\H'=upd H a (.dK (ky kvs k v))) \/
 ∃ kvs k b,H a=some (.dT kvs)/\y=.ref b/\H b=some (.tup (k.map kV))/\kvs.length < sizeLine/\H'=upd H a (.dT (ky kvs k v))
theorem uo.k{H:Hp}{a:Addr}{kvs:List (Key × V)}{k:Key}(e:H a=some (.dK kvs)):uo H a (kV k) (eT kvs k):=.inl ⟨kvs,k,.inl e,rfl,rfl⟩
theorem EN.k{H:Hp}{a:Addr}{kvs:List (Key × V)}{k:Key}{v:V}(e:H a=some (.dK kvs))(hl:kvs.length < sizeLine):EN H a (kV k) v (upd H a (.dK (ky kvs k v))):=.inl ⟨kvs,k,e,rfl,hl,rfl⟩
section
variable {X:Cx}{pins:List (Addr × Obj)}{σ:St}{H:Hp}{s:Shared}{a:Addr}{y v:V}{u r:Value}{o:Option V}{A:Around}{E:Value->Shared->Prop}
theorem Inv.big(I:Inv X pins σ H s):sysModules < s.heap.objs.size:=by
 have h:mainGlobals < s.heap.objs.size:=(I.mod.glob.keeps I.bk).lt;exact Ny (by decide) h
theorem yc{Q:Value->Shared->Prop}(hu:A.units+1 < cLine)(I:Inv X pins σ H s)(g:uo H a y (some v))(ry:bc y u)(h:∀ w' s',Inv X pins σ H s'->bc v w'->Q w' s') :
  wpAny (model X.prog X.w) A (getItem (.ref a) u) Q E s:=by
 rcases g with ⟨kvs,k,e,ey,l⟩|⟨kvs,k,b,e,ey,eb,l⟩
 ·subst ey;obtain⟨z,hd,vs,rel,dd⟩:=uG I.hok e;obtain⟨w',hw,rw'⟩:=nA.some_of (v:=v) (o:=valueAt vs k) (by rw [l];exact rel.val k);exact wpAny_getItem_of (uz ry) dd.mapOf hw (h w' _ (I.tok _) rw')
 ·subst ey;cases (show u=Value.ref b from ry);obtain⟨z,hd,xs,rel,dd⟩:=uF I.hok e;obtain⟨w',hw,rw'⟩:=nA.some_of (v:=v) (o:=(atKey xs k).map (·.2)) (by rw [l];exact rel.val k);obtain⟨p,hp,hp2⟩:=Mg.mp hw;refine wpAny_getItem_heap (Ou hu) (nN I.hok eb) dd hp ?_;rw [hp2];exact h w' _ (I.tok _) rw'
theorem LU{Q:Value->Shared->Prop}(hu:A.units+1 < cLine)(I:Inv X pins σ H s)(g:uo H a y o)(ry:bc y u)(h:∀ s',Inv X pins σ H s'->Q (.bool o.isSome) s') :
  wpAny (model X.prog X.w) A (compareOp .In u (.ref a)) Q E s:=by
 rcases g with ⟨kvs,k,e,ey,l⟩|⟨kvs,k,b,e,ey,eb,l⟩
 ·subst ey;obtain⟨z,hd,vs,rel,dd⟩:=uG I.hok e;refine wpAny_in_of (uz ry) hd dd.mapOf ?_;rw [←(rel.val k).isSome_eq,←l];exact h _ (I.tok _)
 ·subst ey;cases (show u=Value.ref b from ry);obtain⟨z,hd,xs,rel,dd⟩:=uF I.hok e;refine wpAny_in_heap (Ou hu) (nN I.hok eb) hd dd ?_;have q:=(rel.val k).isSome_eq;rw [OR] at q;rw [←q,←l];exact h _ (I.tok _)
theorem ED{Q:Value->Shared->Prop}(hu:A.units+1 < cLine)(I:Inv X pins σ H s)(g:uo H a y o)(ry:bc y u)(h:∀ s',Inv X pins σ H s'->Q (.bool (!o.isSome)) s') :
  wpAny (model X.prog X.w) A (compareOp .NotIn u (.ref a)) Q E s:=by
 rcases g with ⟨kvs,k,e,ey,l⟩|⟨kvs,k,b,e,ey,eb,l⟩
 ·subst ey;obtain⟨z,hd,vs,rel,dd⟩:=uG I.hok e;refine wpAny_notIn_of (uz ry) hd dd.mapOf ?_;rw [←(rel.val k).isSome_eq,←l];exact h _ (I.tok _)
 ·subst ey;cases (show u=Value.ref b from ry);obtain⟨z,hd,xs,rel,dd⟩:=uF I.hok e;refine wpAny_notIn_heap (Ou hu) (nN I.hok eb) hd dd ?_;have q:=(rel.val k).isSome_eq;rw [OR] at q;rw [←q,←l];exact h _ (I.tok _)
theorem vW{h':Heap}{t':Nat}{ob:HO}(I:Inv X pins σ H s)(mu:Mut (H a))(hs:Heap.SameBut a s.heap h')(he:∃ q,h'.get? a=some q)(new:aV X.prog X.w (upd H a ob) h' a ob) :
  Inv X pins σ (upd H a ob) { s with heap:=h',toks:=t' }:=
 I.write (x:=a) (e:=a) mu (.inl rfl) (λ b q hb z=>(hs.2 b hb).trans z) he new
theorem Ii{P:Program}{w:World}{H':Hp}{h':Heap}{kvs:List (Key × V)}{vs:List (Key × Value)}(z:kvs.length<=sizeLine)(hd:(a == sysModules)=false)(rel:KV kvs vs)(dd:h'.DictOf (bP P w) a vs) :
  aV P w H' h' a (.dK kvs):=⟨z,hd,vs,rel,dd⟩
theorem yb{H':Hp}{Q:Unit->Shared->Prop}(hu:A.units+1 < cLine)(I:Inv X pins σ H s)(g:EN H a y v H')(ry:bc y u)(rv:bc v r)(h:∀ s',Inv X pins σ H' s'->Q () s') :
  wpAny (model X.prog X.w) A (setItem (.ref a) u r) Q E s:=by
 rcases g with ⟨kvs,k,e,ey,l,eH⟩|⟨kvs,k,b,e,ey,eb,l,eH⟩
 ·subst ey eH;obtain⟨z,hd,vs,rel,dd⟩:=KG I.hok e;have hz:vs.length<=sizeLine:=by rw [←rel.length];exact z
  have hl:(ky kvs k v).length<=sizeLine:=by have:=jH kvs k v;omega
  refine wpAny_setItem_pairs (hsz:=hz) (uz ry) dd λ h' dd' hs=>h _ ?_;have he:∃ q,h'.get? a=some q:=let ⟨q,_,_,hq,_⟩:=dd';⟨q,hq⟩;exact vW I (by rw [e];exact True.intro) hs he (Ii hl hd (rel.put k rv) dd')
 ·subst ey eH;cases (show u=Value.ref b from ry);obtain⟨z,hd,xs,rel,dd⟩:=KD I.hok e;have hz:xs.length<=sizeLine:=by rw [←OG rel];exact z
  have hl:(ky kvs k v).length<=sizeLine:=by have:=jH kvs k v;omega
  refine wpAny_setItem_heap (hsz:=hz) (Ou hu) (nN I.hok eb) dd λ h' dd' hs=>h _ ?_;obtain⟨q,es,ep,hq,h2,h3,h4,_,h5⟩:=dd';refine vW I (by rw [e];exact True.intro) hs ⟨q,hq⟩ ⟨hl,hd,_,(rel.put k eb rv).keeps λ c ys ec=>?_,q,es,ep,hq,h2,h3,h4,h5⟩;rw [ae (JS ec e (λ z=>nomatch z))];exact ec
end
section
variable {X:Cx}{pins:List (Addr × Obj)}{σ:St}{H:Hp}{s:Shared}{a:Addr}{kvs:List (Key × V)}{k:Key}{u:Value}{A:Around}{E:Value->Shared->Prop}
end
def Ls(i:Expr):Prop:=∀ ov iv,subscripted i false ov iv=operate [ov,iv] (getItem ov iv)
theorem Cs{prog:Program}{w:World}{A:Around}{E:Value->Shared->Prop}{s:Shared}{env:Env}{value slice:Expr}{pos:Pos}{T id:String}{Q:Value->Shared->Prop}
  (hl:typeLookup (.type T) "__getitem__"=pure (some (.builtin id))) (hs:Ls slice)
  (h:wpAny (model prog w) A (eval value env) (λ o s₁=>wpAny (model prog w) A (eval slice env) (λ i s₂=>s₂.TypeIs o T/\wpAny (model prog w) A (getItem o i) Q E s₂) E s₁) E s) :
  wpAny (model prog w) A (eval (.Subscript value slice pos) env) Q E s:=by
 refine Subscript_ (wpAny_mono h (λ o s₁ h₁=>wpAny_mono h₁ (λ i s₂ h₂=>?_) λ _ _ x=>x) λ _ _ x=>x);obtain⟨hT,h₂⟩:=h₂;unfold subscriptTail;refine wpAny_bind ?_;rw [getitemInPython_of_ne hT.not_modules];refine wpAny_bind (wpAny_specialOf hT hl ?_)
 have fin:wpAny (model prog w) A (subscripted slice false o i) (λ r s₃=>wpAny (model prog w) A (letTemporaryGo value o r >>= λ _=>pure r) Q E s₃) E s₂:=by
  rw [hs o i];exact wpAny_operating (Nk h₂ (λ r s₃ h₃=>L7 (wpAny_letTemporaryGo (Mf h₃))) λ _ _ x=>x)
 first
  | exact Mf (L7 fin)
  | exact L7 (Mf (L7 fin))
  | exact L7 fin
theorem qB{X:Cx}{pins:List (Addr × Obj)}{σ:St}{H:Hp}{s:Shared}{a:Addr}{y:V}{o:Option V}(I:Inv X pins σ H s)(g:uo H a y o):s.TypeIs (.ref a) "dict":=by
 rcases g with ⟨kvs,k,e,_,_⟩|⟨kvs,k,b,e,_,_,_⟩
 ·obtain⟨_,_,vs,_,dd⟩:=uG I.hok e;exact dd.typeIs
 ·obtain⟨_,_,xs,_,dd⟩:=uF I.hok e;exact dd.typeIs
def E8(td ty:TE):TE:=λ σ H Q=>td σ H λ x H1=>ty σ H1 λ y H2=>∃ a v,x=.ref a/\uo H2 a y (some v)/\Q v H2
def Fd(td ty tv:TE):TS:=λ D σ H=>tv σ H λ v H1=>td σ H1 λ x H2=>ty σ H2 λ y H3=>∃ a H4,x=.ref a/\EN H3 a y v H4/\D.nx σ H4
section
variable {X:Cx}{o i e value:Expr}{pos pos' tpos:Pos}{td ty tv:TE}
theorem p5(hu:X.A.units+1 < cLine)(ho:PE X o td)(hi:PE X i ty)(hs:Ls i):PE X (.Subscript o i pos) (E8 td ty):=by
 intro pins s σ H Q I h;refine Cs PySem.F.slot_dict_getitem.lookup hs (thn (ho pins s σ H _ I h) λ u s1 ⟨x,H1,I1,rx,q1⟩=>thn (hi pins s1 σ H1 _ I1 q1) λ iv s2 ⟨y,H2,I2,ry,a,v,ex,g,q2⟩=>?_);subst ex;obtain rfl:u=Value.ref a:=rx;exact⟨qB I2 g,yc hu I2 g ry λ w' s3 I3 rw'=>⟨v,H2,I3,rw',q2⟩⟩
theorem lU(hu:X.A.units+1 < cLine)(ho:PE X o td)(hi:PE X i ty)(hv:PE X value tv)(hs:swapsWith value (some (.Subscript o i pos')) pos.line X.env=pure false) :
  PS X (.Assign [.Subscript o i pos'] value pos) (Fd td ty tv):=by
 intro pins s σ H D I h;refine wpAny_Assign_Subscript (thn (hv pins s σ H _ I h) λ r s1 ⟨v,H1,I1,rv,q1⟩=>thn (ho pins s1 σ H1 _ I1 q1) λ u s2 ⟨x,H2,I2,rx,q2⟩=>thn (hi pins s2 σ H2 _ I2 q2) λ iv s3 ⟨y,H3,I3,ry,a,H4,ex,g,q3⟩=>?_) hs;subst ex;obtain rfl:u=Value.ref a:=rx;exact yb hu I3 g ry rv λ s4 I4=>⟨σ,H4,I4,q3⟩
end
theorem AG{P:Program}{w:World}{H:Hp}(h:Heap)(hb:sysModules < h.objs.size):aV P w H (h.push { cls:=.type "dict",data:=.dict #[] }) h.objs.size (.dK []):=
 ⟨MC _,Nz.mpr (NA (Ms hb)),[],.nil,Heap.DictOf.new h⟩
def FL:TE:=λ _ H Q=>∀ p,H p=none->Q (.ref p) (upd H p (.dK []))
section
variable {X:Cx}{pos:Pos}
theorem zF:PE X (.Dict [] [] pos) FL:=λ pins s σ H Q I h=>
 wpAny_Dict_empty ⟨.ref s.heap.objs.size,_,I.laid (a:=s.heap.objs.size) (o:=.dK []) (t':=s.toks) (λ _ _ q=>Ma _ q) (Mb _) (AG s.heap I.big),rfl,h _ (I.hok.fresh (Mb _))⟩
end
structure M1(X:Cx)(o:Expr)(m:Str)(apos:Pos)(e:Expr)(cpos:Pos):Prop where
 base:attributeBase o m X.env (eval o X.env)=eval o X.env
 few:((backTo cpos (starEach [e] X.env)).all (λ x=>!x.1) && (backToKw cpos (keywordEach [] X.env)).all (λ x=>x.1.isSome)
  && decide (([e]:List Expr).length+([]:List Keyword).length+(if ([]:List Keyword).isEmpty then 0 else 1) < 30))=true
 line:(apos.endLine == cpos.line)=true
 trees:backTo cpos (starEach [e] X.env)=[(false,eval e X.env)]
structure M2(X:Cx)(o:Expr)(m:Str)(apos:Pos)(e f:Expr)(cpos:Pos):Prop where
 base:attributeBase o m X.env (eval o X.env)=eval o X.env
 few:((backTo cpos (starEach [e,f] X.env)).all (λ x=>!x.1) && (backToKw cpos (keywordEach [] X.env)).all (λ x=>x.1.isSome)
  && decide (([e,f]:List Expr).length+([]:List Keyword).length+(if ([]:List Keyword).isEmpty then 0 else 1) < 30))=true
 line:(apos.endLine == cpos.line)=true
 trees:backTo cpos (starEach [e,f] X.env)=[(false,eval e X.env),(false,eval f X.env)]
section
variable {X:Cx}{pins:List (Addr × Obj)}{σ:St}{H:Hp}{s:Shared}{a:Addr}{y d:V}{u r:Value}{o:Option V}{A:Around}{E:Value->Shared->Prop}
end
section
variable {X:Cx}{o e f:Expr}{apos cpos:Pos}{td ty tx:TE}
end
section
variable {X:Cx}{pins:List (Addr × Obj)}{σ:St}{H:Hp}{s:Shared}{a:Addr}{kvs:List (Key × V)}{A:Around}{E:Value->Shared->Prop}
end
section
variable {X:Cx}{pins:List (Addr × Obj)}{σ:St}{H:Hp}{s:Shared}{a:Addr}{y:V}{u:Value}{A:Around}{E:Value->Shared->Prop}
end
section
variable {κ:Type}[DecidableEq κ]
end
section
variable {X:Cx}
def Ce(i j:Int):Prop:=i.natAbs < 2 ^ 256/\j.natAbs < 2 ^ 256
theorem wa{i:Int}(h:i.natAbs < 2 ^ 256):Builtin.Int.intBits i<=2 ^ 20:=MQ (intBits_le h) (by decide)
theorem CS:OpR X (binaryOp .Mult) (rI Ce λ i j=>.int (i * j)):=opI λ _ _ _ _ _ _ _ hc q=>mul_int q (IntMulOk.of_bits (wa hc.1) (wa hc.2))
theorem AJ:bO X (.builtin "isinstance") (λ xs H Q=>∃ x n ty b,xs=[x,.ty n]/\qI X.K H x ty/\W.kitOne X.K ty (.type n)=some b/\Q (.bl b) H):=by
 intro pins s σ H xs us Q I r h;obtain⟨x,n,ty,b,rfl,hty,hk,q⟩:=h;obtain⟨u,w',rfl,rx,rc⟩:=yJ r;cases (show w'=Value.type n from rc);exact xX I rx hty hk (λ tk=>⟨.bl b,H,I.tok _,rfl,q⟩)
theorem xU(K:W.Frag)(A B:String)(r:Bool)
  (h:(if (Value.type A == Value.type B)=true then some true else if W.kitMeta B=true then (fastBuiltinMro A).map (·.contains (.type B)) else none)=some r):W.kitOne K (.type A) (.type B)=some r:=h
mutual
inductive lN (K:PySem.W.Frag) (H:Hp):V->PyData->Prop
 | non:lN K H .non .none
 | bl (b:Bool):lN K H (.bl b) (.bool b)
 | int (i:Int):lN K H (.int i) (.int i)
 | str (x:Str):lN K H (.str x) (.str x)
 | lst {a:Addr} {xs:List V} {ds:List PyData} (h:SqL K H a xs) (r:i7 K H xs ds):lN K H (.ref a) (.list ds)
 | tup {a:Addr} {xs:List V} {ds:List PyData} (h:SqT K H a xs) (r:i7 K H xs ds):lN K H (.ref a) (.tuple ds)
inductive i7 (K:PySem.W.Frag) (H:Hp):List V->List PyData->Prop
 | nil:i7 K H [] []
 | cons {x:V} {d:PyData} {xs:List V} {ds:List PyData} (h:lN K H x d) (t:i7 K H xs ds):i7 K H (x::xs) (d::ds)
end
mutual
theorem lN.reads{pins:List (Addr × Obj)}{σ:St}{H:Hp}{s:Shared}(I:Inv X pins σ H s):∀ {x:V}{d:PyData}{u:Value},lN X.K H x d->bc x u->∃ as,Reads s.heap u d as
 | _,_,_,.non,r=>by cases (show _=Value.none from r);exact⟨_,.none⟩
 | _,_,_,.bl b,r=>by cases (show _=Value.bool b from r);exact⟨_,.bool b⟩
 | _,_,_,.int i,r=>by obtain⟨t,rfl⟩:=r;exact⟨_,.int i t⟩
 | _,_,_,.str x,r=>by obtain⟨t,rfl⟩:=r;exact⟨_,.str x t⟩
 | _,_,_,@lN.lst _ _ a xs ds h q,r=>by
  cases (show _=Value.ref a from r);obtain⟨its,hv,hp,_⟩:=I.list h;obtain⟨o,n,e,c,_,d⟩:=hp;obtain⟨as,z⟩:=i7.reads I q hv;exact⟨_,.list e c d (by simpa using z)⟩
 | _,_,_,@lN.tup _ _ a xs ds h q,r=>by
  cases (show _=Value.ref a from r);obtain⟨its,hv,hp,_⟩:=I.tuple h;obtain⟨o,e,c,n,d⟩:=hp;obtain⟨as,z⟩:=i7.reads I q hv;exact⟨_,.tuple e c d (by simpa using z)⟩
theorem i7.reads{pins:List (Addr × Obj)}{σ:St}{H:Hp}{s:Shared}(I:Inv X pins σ H s):∀ {xs:List V}{ds:List PyData}{us:List Value},i7 X.K H xs ds->br xs us->∃ as,ReadsAll s.heap us ds as
 | _,_,_,.nil,.nil=>⟨_,.nil⟩
 | _,_,_,.cons h t,.cons r q=>by
  obtain⟨as,z⟩:=lN.reads I h r;obtain⟨bs,y⟩:=i7.reads I t q;exact⟨_,.cons z y⟩
end
def LJ(K:W.Frag):R2:=λ x y H Q=>∃ d e,lN K H x d/\lN K H y e/\SeqAt.shaped d=true/\SeqAt.shaped e=true/\Q (.bl (PyData.eqv d e)) H
def LF(K:W.Frag):R2:=λ x y H Q=>∃ d e,lN K H x d/\lN K H y e/\SeqAt.shaped d=true/\SeqAt.shaped e=true/\Q (.bl (!PyData.eqv d e)) H
theorem Gs(hu:X.A.units+64 < cLine):OpR X (compareOp .Eq) (LJ X.K):=by
 intro pins s σ H x y v u Q I rx ry h;obtain⟨d,e,hd,he,sd,se,q⟩:=h;obtain⟨as,z⟩:=hd.reads I rx;obtain⟨bs,z'⟩:=he.reads I ry;exact SeqAt.compareEq_shaped z z' sd se hu ⟨.bl _,H,I,rfl,q⟩
theorem Gq(hu:X.A.units+64 < cLine):OpR X (compareOp .NotEq) (LF X.K):=by
 intro pins s σ H x y v u Q I rx ry h;obtain⟨d,e,hd,he,sd,se,q⟩:=h;obtain⟨as,z⟩:=hd.reads I rx;obtain⟨bs,z'⟩:=he.reads I ry;exact SeqAt.compareNe_shaped z z' sd se hu ⟨.bl _,H,I,rfl,q⟩
end
theorem zm{H:Hp}{p:Addr}{o:HO}(h:H p=none):kB H (upd H p o):=λ b u e=>by
 rw [ae (ah e h)];exact e
theorem BH{α:Type}(xs:List α)(i:Int)(h0:0<=i)(h1:i < xs.length):∃ v,atI xs i=some v/\v∈xs:=by
 have hl:i.toNat < xs.length:=by omega
 refine⟨xs[i.toNat],?_,NN hl⟩;have e:((i.toNat:Nat):Int)=i:=by omega
 have:=bA (xs:=xs) (j:=i.toNat) (v:=xs[i.toNat]) (L8 hl);rw [e] at this;exact this
theorem rS(ns:List Int)(i:Int)(h0:0<=i)(h1:i < ns.length):∃ z,atI (ns.map V.int) i=some (.int z)/\z∈ns:=by
 obtain⟨v,e,m⟩:=BH (ns.map V.int) i h0 (by simpa using h1);obtain⟨z,hz,rfl⟩:=MM.mp m;exact⟨z,e,hz⟩
def nz(cells:List (Str × Addr)):List (Str × NameKind)->List (Str × Addr)->List (Str × Addr)
 | [],acc=>acc
 | (n,k)::r,acc=>if (k == .free)=true then nz cells r ((n,(cells.lookup n).getD 0)::acc) else nz cells r acc
theorem gB{env:Env}:∀ (names:List (Str × NameKind)) (acc:List (Str × Addr)),(∀ y∈names,y.2=.free->∃ c,env.cells.lookup y.1=some c) →
  (forIn names acc (λ (x:Str × NameKind) (cs:List (Str × Addr))=>match x with
   | (name,kind)=>if (kind == .free)=true then (do let a ←cellOf env name;pure (ForInStep.yield ((name,a)::cs))) else (do pure PUnit.unit;pure (ForInStep.yield cs))):Sem (List (Str × Addr)))=pure (nz env.cells names acc)
 | [],acc,_=>rfl
 | (n,k)::r,acc,h=>by
  rw [List.forIn_cons];have hr:∀ y∈r,y.2=.free->∃ c,env.cells.lookup y.1=some c:=λ y hy=>h y (Mp _ hy)
  by_cases hk:(k == .free)=true
  ·obtain⟨c,hc⟩:=h (n,k) mem_cons_self (by simpa using hk);have hc':env.cells.lookup n=some c:=hc;simp only [hk,if_true,nz,hc',Option.getD_some];have e:cellOf env n=pure c:=by unfold cellOf;rw [hc']
   rw [e];exact gB r _ hr
  ·simp only [hk,if_false,nz];exact gB r acc hr
theorem gW{scope:Scope}{env:Env}(h:∀ y∈scope.names,y.2=.free->∃ c,env.cells.lookup y.1=some c):closureFor scope env=pure (nz env.cells scope.names []):=by
 unfold closureFor;have:=gB (env:=env) scope.names [] h
 first
  | exact(NI (λ m=>m >>= λ cs=>pure cs) this).trans (pure_bind _ _)
  | (simp only [] at this ⊢;rw [this];rfl)
theorem mQ{cells:List (Str × Addr)}{x:Str}{c:Addr}:∀ {names:List (Str × NameKind)}{acc:List (Str × Addr)},(∀ y∈names,y.2=.free->∃ c,cells.lookup y.1=some c)->(nz cells names acc).lookup x=some c->acc.lookup x=some c\/cells.lookup x=some c
 | [],acc,_,h=>.inl h
 | (n,k)::r,acc,hf,h=>by
  have hr:∀ y∈r,y.2=.free->∃ c,cells.lookup y.1=some c:=λ y hy=>hf y (mem_cons_of_mem _ hy);unfold nz at h
  by_cases hk:(k == .free)=true
  ·rw [My hk] at h
   rcases mQ hr h with q|q
   ·rw [NH] at q
    cases hx:x == n with
    | true=>
     rw [hx] at q;obtain⟨d,hd⟩:=hf (n,k) Mx (by simpa using hk);have e:x=n:=by simpa using hx
     subst e;have hd':cells.lookup x=some d:=hd;rw [hd'] at q ⊢;exact .inr (by simpa using q)
    | false=>rw [hx] at q;exact .inl q
   ·exact .inr q
  ·rw [Mw hk] at h;exact mQ hr h
theorem mR{cells:List (Str × Addr)}{x:Str}:∀ {names:List (Str × NameKind)}{acc:List (Str × Addr)},(∀ y∈names,y.2=.free->∃ c,cells.lookup y.1=some c)->(∃ c,acc.lookup x=some c)->∃ c,(nz cells names acc).lookup x=some c
 | [],acc,_,h=>h
 | (n,k)::r,acc,hf,h=>by
  have hr:∀ y∈r,y.2=.free->∃ c,cells.lookup y.1=some c:=λ y hy=>hf y (mem_cons_of_mem _ hy);unfold nz
  by_cases hk:(k == .free)=true
  ·rw [My hk];refine mR hr ?_;rw [NH]
   cases hx:x == n with
   | true=>exact⟨_,rfl⟩
   | false=>exact h
  ·rw [Mw hk];exact mR hr h
theorem i5{cells:List (Str × Addr)}{x:Str}:∀ {names:List (Str × NameKind)}{acc:List (Str × Addr)},(∀ y∈names,y.2=.free->∃ c,cells.lookup y.1=some c)->names.lookup x=some .free->∃ c,(nz cells names acc).lookup x=some c
 | [],acc,_,h=>by simp at h
 | (n,k)::r,acc,hf,h=>by
  have hr:∀ y∈r,y.2=.free->∃ c,cells.lookup y.1=some c:=λ y hy=>hf y (mem_cons_of_mem _ hy);rw [lookup_cons] at h;unfold nz
  cases hx:x == n with
  | true=>
   rw [hx] at h;have hk:k=.free:=by simpa using h
   subst hk;rw [My (show (NameKind.free == NameKind.free)=true from rfl)];refine mR hr ⟨(cells.lookup n).getD 0,?_⟩;rw [NH,hx]
  | false=>
   rw [hx] at h
   by_cases hk:(k == .free)=true
   ·rw [My hk];exact i5 hr h
   ·rw [Mw hk];exact i5 hr h
theorem fP{x:Str}{k:NameKind}:∀ {names:List (Str × NameKind)},names.lookup x=some k->(x,k)∈names
 | [],h=>by simp at h
 | (n,j)::r,h=>by
  rw [NH] at h
  cases hx:x == n with
  | true=>
   rw [hx] at h;have e:x=n:=by simpa using hx
   have e2:j=k:=by simpa using h
   subst e;subst e2;exact Mx
  | false=>rw [hx] at h;exact Mp _ (fP h)
theorem dU{env:Env}{x:Str}:∀ {names:List (Str × NameKind)},
  (names.map λ (n,k)=>if (k == NameKind.free && env.scope.kind == .function && env.kindOf n == some .cell) then (n,NameKind.cell) else (n,k)).lookup x
   = (names.lookup x).map λ k=>if (k == NameKind.free && env.scope.kind == .function && env.kindOf x == some .cell) then NameKind.cell else k
 | []=>rfl
 | (n,k)::r=>by
  have ih:=@dU env x r
  show List.lookup x ((if (k == NameKind.free && env.scope.kind == .function && env.kindOf n == some .cell)=true then (n,NameKind.cell) else (n,k))::_)=_
  cases hx:x == n with
  | true=>
   have e:x=n:=by simpa using hx
   subst e
   by_cases hc:(k == NameKind.free && env.scope.kind == .function && env.kindOf x == some .cell)=true
   ·rw [My hc];simp only [NH,Ov,Nn];rw [My hc]
   ·rw [Mw hc];simp only [NH,Ov,Nn];rw [Mw hc]
  | false=>
   by_cases hc:(k == NameKind.free && env.scope.kind == .function && env.kindOf n == some .cell)=true
   ·rw [My hc];simp only [NH,hx];exact ih
   ·rw [Mw hc];simp only [NH,hx];exact ih
abbrev cCx(X:Cx)(scope:Scope)(N':List Str)(C:Addr)(s₀:Shared)(H₀:Hp)(ex:List Addr)(pn:List (Addr × Obj)):Cx:=
 { X with N:=N',s₀:=s₀,H₀:=H₀,env:=compEnvC scope (nz X.env.cells scope.names []) C X.env,outer:=X.stack,stack:=X.stack,ex:=ex,fn:=λ _=>false,pn:=pn,xe:=λ _ _=>False }
def PTs(Y:Cx)(ifs:List Expr)(t:TT):Prop:=
 ∀ (pins:List (Addr × Obj)) (s:Shared) (σ:St) (H:Hp) (Q:Bool->Hp->Prop),Inv Y pins σ H s->t σ H Q →
  wpAny (model Y.prog Y.w) Y.A (forIn ifs true λ c r=>if r=true then do let ok ←isTrue c Y.env (eval c Y.env);pure (ForInStep.yield ok) else pure (ForInStep.yield r)) (TP Y pins σ Q) Y.xe s
def KO:TT:=λ _ H Q=>Q true H
theorem bF{Y:Cx}:PTs Y [] KO:=λ _ _ _ H _ I h=>Mf ⟨H,I,h⟩
theorem hV{Y:Cx}{c:Expr}{t:TT}(h:PT Y c t):PTs Y [c] t:=λ pins s σ H Q I hw=>PySem.wpAny_tests_one (h pins s σ H Q I hw)
theorem HOk.but{P:Program}{w:World}{H:Hp}{h h':Heap}{C:Addr}(ok:HOk P w H h)(hn:H C=none)(hs:Heap.SameBut C h h'):HOk P w H h':=λ b ob e=>by
 refine(ok b ob e).stay (λ c w' hc q=>(hs.2 c ?_).trans q) (λ _ q=>q) (λ _ _ q=>q) λ _ _ q=>q;rintro rfl
 rcases hc with rfl|hc
 ·rw [hn] at e;cases e
 ·rw [hn] at hc;cases hc
theorem Un.but{fs ex:List Addr}{H H':Hp}{h h1 h2:Heap}{C:Addr}(u:Un fs ex H H' h h1)(hs:Heap.SameBut C h1 h2)(hC:∀ b o,h.get? b=some o->b ≠ C):Un fs ex H H' h h2 where
 keep:=λ b o e n hb hx=>(hs.2 b (hC b o e)).trans (u.keep b o e n hb hx)
 slot:=λ b o e n hb hx=>by
  obtain⟨sl,q⟩:=u.slot b o e n hb hx;exact⟨sl,(hs.2 b (hC b o e)).trans q⟩
 free:=u.free
 there:=λ b o e hx=>by
  obtain⟨o',q⟩:=u.there b o e hx;exact⟨o',(hs.2 b (hC b o e)).trans q⟩
 tups:=u.tups
 frzs:=u.frzs
 tbls:=u.tbls
section
variable {X:Cx}
def BQ(k:Nat)(wi:TI)(g:TG)(tt:TT)(te:TE):TE:=λ σ H Q=>wi σ H λ J H1=>∀ D,H1 D=none->∃ W:Nat->Nat->List V->Hp->Prop,(∃ m,W 0 m [] (upd H1 D (.lst [])))/\∀ i m ys H,W i m ys H →
 (J.stop i H/\Q (.ref D) H)\/(J.go i H/\∃ N:List V->Hp->Prop,(∀ ys' H',N ys' H'->∃ m',m' < m/\W (i+1) m' ys' H') /\
  ∀ x H',J.yld i H x H'->g x (List.replicate k none++σ) H' λ σ2 H2=>(∃ vs:St,vs.length=k/\σ2=vs++σ)/\tt σ2 H2 λ b H3=>if b=true then te σ2 H3 λ y H4=>H4 D=some (.lst ys)/\ys.length < sizeLine/\N (ys++[y]) (upd H4 D (.lst (ys++[y]))) else N ys H3)
theorem yd{Y:Cx}{tg elt iter:Expr}{ifs:List Expr}{scope:Scope}{pos:Pos}{it D:Addr}{g:TG}{tt:TT}{te:TE}{J:It}{fp:List Addr}{tn:Nat->Heap->Prop}{k:Nat}{σ:St}{Q:VK}
  (hc:Y.calm=true) (hx:Y.xe=λ _ _=>False) (hg:PG Y tg g) (ht:PTs Y ifs tt) (he:PE Y elt te) (T:AV Y.prog Y.w Y.K tg J fp it tn) (hf:∀ H:Hp,(∀ b∈fp,H b=none)->∀ b∈fp,kO Y [] H b)
  (W:Nat->Nat->List V->Hp->Prop)
  (turn:∀ i m ys H,W i m ys H->(J.stop i H/\Q (.ref D) H)\/(J.go i H/\∃ N:List V->Hp->Prop,(∀ ys' H',N ys' H'->∃ m',m' < m/\W (i+1) m' ys' H') /\
   ∀ x H',J.yld i H x H'->g x (List.replicate k none++σ) H' λ σ2 H2=>(∃ vs:St,vs.length=k/\σ2=vs++σ)/\tt σ2 H2 λ b H3=>if b=true then te σ2 H3 λ y H4=>H4 D=some (.lst ys)/\ys.length < sizeLine/\N (ys++[y]) (upd H4 D (.lst (ys++[y]))) else N ys H3))
  (n:Nat) (s:Shared) (h:∃ i ys H,Inv Y [] (List.replicate k none++σ) H s/\tn i s.heap/\(∀ b∈fp,H b=none)/\W i n ys H) :
  codeAny (model Y.prog Y.w) Y.A (.compLoop (.ListComp elt [⟨tg,iter,ifs,0⟩] scope pos) 0 (.ref it) (.ref D) Y.env) (λ r s'=>r=.ok .next/\∃ H',Inv Y [] (List.replicate k none++σ) H' s'/\Q (.ref D) H') s:=by
 refine codeAny_loop rfl (λ n s=>∃ i ys H,Inv Y [] (List.replicate k none++σ) H s/\tn i s.heap/\(∀ b∈fp,H b=none)/\W i n ys H) ?_ n h;rintro n s3 ⟨i,ys,H3,I3,st3,fr3,w3⟩
 show wpAny _ Y.A ((compTurn (.ListComp elt [⟨tg,iter,ifs,0⟩] scope pos) 0 (.ref it) (.ref D) Y.env).onRaise (λ x=>do noteFrame x Y.env;theTreesLotGoes x)) _ _ s3
 refine PySem.wpAny_noted ?_;rw [PySem.compTurn_list]
 have no:∀ {α:Type} {m:Sem α} {P:α->Shared->Prop} {E:Value->Shared->Prop} {s:Shared},wpAny (model Y.prog Y.w) Y.A m P Y.xe s->wpAny (model Y.prog Y.w) Y.A m P E s:=λ {α m P E s} h=>
  Nk h (λ _ _ q=>q) λ _ _ q=>by rw [hx] at q;exact q.elim
 refine L7 (NS (L7 ?_))
 rcases turn i n ys H3 w3 with ⟨stop,qn⟩|⟨go,N,hN,step⟩
 ·refine thn (T.done Y rfl rfl rfl hc i [] s3 (List.replicate k none++σ) H3 _ I3 (hf H3 fr3) st3 stop) λ r s4 ⟨hr,I4⟩=>?_;subst hr;exact Mf ⟨rfl,H3,I4,qn⟩
 ·refine thn (T.item Y rfl rfl rfl hc i [] s3 (List.replicate k none++σ) H3 _ I3 (hf H3 fr3) st3 go) λ r s4 ⟨u,hr,h4⟩=>?_;subst hr;refine L7 (thn h4 λ _ s5 ⟨x,H5,I5,r5,y5,st5,fr5⟩=>?_);have I5':=I5.pinned (hf H5 fr5) (T.obj _ _ st5);refine L7 (no (thn (hg _ s5 (List.replicate k none++σ) H5 x u _ I5' r5 (step x H5 y5)) λ _ s6 ⟨σ6,H6,I6,⟨vs,hvs,e6⟩,q6⟩=>?_));subst e6
  have forget:∀ {pins:List (Addr × Obj)} {H:Hp} {s:Shared},Inv Y pins (vs++σ) H s->Inv Y pins (List.replicate k none++σ) H s:=λ {pins H s} I=>I.weak (by simp [hvs]) λ i v e=>by
   by_cases hi:i < k
   ·rw [MN (by simpa using hi)] at e;simp [NB,hi] at e
   ·rw [MG (by simpa using Ox hi)] at e;rw [MG (by omega)]
    simpa [hvs] using e
  refine L7 (no (thn (ht _ s6 (vs++σ) H6 _ I6 q6) λ b s7 ⟨H7,I7,q7⟩=>?_))
  have again:∀ {H8:Hp} {s8:Shared} {ys':List V},Inv Y ([]++nK fp s5.heap) (vs++σ) H8 s8->N ys' H8->∃ m,m < n/\∃ i ys H,Inv Y [] (List.replicate k none++σ) H s8/\tn i s8.heap/\(∀ b∈fp,H b=none)/\W i m ys H:=λ {H8 s8 ys'} I8 n8=>by
   obtain⟨m',hm,w8⟩:=hN ys' H8 n8;refine⟨m',hm,i+1,ys',H8,forget I8.unpinned,T.keep _ _ _ st5 λ b hb o e=>(I8.pin (b,o) (Me _ (Me _ (fO hb e)))).1,λ b hb=>?_,w8⟩;obtain⟨o,e,d⟩:=T.obj _ _ st5 b hb;exact(I8.pin (b,o) (Me _ (Me _ (fO hb e)))).2.1
  cases b with
  | false=>
   rw [Mw Mj] at q7;exact Mf ⟨rfl,again I7 q7⟩
  | true=>
   rw [My rfl] at q7;refine L7 (L7 (no (thn (he _ s7 (vs++σ) H7 _ I7 q7) λ y s8 ⟨y',H8,I8,ry,q8,l8,n8⟩=>?_)));exact L7 (no (thn (bo _ s8 (vs++σ) H8 (.ref D) [y'] (.ref D) [y] (λ _ H'=>N (ys++[y']) H') I8 rfl (.cons ry .nil) ⟨D,ys,y',rfl,rfl,q8,l8,n8⟩) λ _ s9 ⟨_,H9,I9,_,q9⟩=>Mf (Mf ⟨rfl,again I9 q9⟩)))
structure jb(X:Cx)(scope:Scope)(N':List Str)(k:Nat):Prop where
 cell:∀ y∈scope.names,y.2 ≠ .cell
 kind:scope.kind=.function
 names:∀ y∈scope.names,y.2=.local->scope.names.lookup y.1=some .local
 free:∀ y∈scope.names,y.2=.free->X.env.scope.names.lookup y.1=some .cell
 len:N'.length=k+X.N.length
 sub:∀ i x,N'[k+i]? = some x->scope.names.lookup x=some .free->X.N[i]? = some x
 loc:∀ i x,N'[k+i]? = some x->scope.names.lookup x ≠ some .local
theorem jb.cells{scope:Scope}{N':List Str}{k:Nat}{pins:List (Addr × Obj)}{σ:St}{H:Hp}{s:Shared}(c:jb X scope N' k)(I:Inv X pins σ H s):∀ y∈scope.names,y.2=.free->∃ a,X.env.cells.lookup y.1=some a:=λ y hy e=>
 I.ok.has y.1 (.inl (c.free y hy e))
theorem Au{scope:Scope}{N':List Str}{k:Nat}{pins:List (Addr × Obj)}{σ:St}{H:Hp}{s s₄:Shared}{fp:List Addr}{m:Str->Option Value}(c:jb X scope N' k)(hc:X.calm=true)(I:Inv X pins σ H s)
  (hf:∀ b∈fp,kO X pins H b) (hfl:∀ b∈fp,b < s.heap.objs.size) (hb:∀ b∈fp,X.base.get? b=none) (hns:s₄.heap.Ns s.heap.objs.size m) (hk:∀ b o,s.heap.get? b=some o->s₄.heap.get? b=some o) (ho:s₄.os=s.os) (hg:s₄.gens=s.gens) :
  Inv (cCx X scope N' s.heap.objs.size s H fp (X.pn++pins)) [] (List.replicate k none++σ) H s₄:=by
 have hcl:=c.cells I
 have sub:∀ x a,(nz X.env.cells scope.names []).lookup x=some a->X.env.cells.lookup x=some a:=λ x a e=>by
  rcases mQ hcl e with q|q
  ·simp at q
  ·exact q
 have kinds:∀ x,(compEnvC scope (nz X.env.cells scope.names []) s.heap.objs.size X.env).kindOf x=some .cell\/(compEnvC scope (nz X.env.cells scope.names []) s.heap.objs.size X.env).kindOf x=some .free->scope.names.lookup x=some .free:=λ x hx=>by
  have e:(compEnvC scope (nz X.env.cells scope.names []) s.heap.objs.size X.env).kindOf x=(scope.names.lookup x).map λ k=>if (k == NameKind.free && X.env.scope.kind == .function && X.env.kindOf x == some .cell) then NameKind.cell else k:=dU
  rw [e] at hx
  cases q:scope.names.lookup x with
  | none=>rw [q] at hx;simp at hx
  | some j=>
   rw [q] at hx;have hj:j ≠ .cell:=c.cell (x,j) (fP q)
   cases j<;>simp_all
 have fresh:∀ b,s.heap.objs.size<=b->s.heap.get? b=none:=λ b hb=>Nd hb;have ne:∀ b o,s.heap.get? b=some o->b ≠ s.heap.objs.size:=λ b o e=>Ms (Mc e)
 have cl_lt:∀ x a,X.env.cells.lookup x=some a->a < s.heap.objs.size:=λ x a e=>by
  obtain⟨v,o,h1,_⟩:=I.cell x a e;exact Mc h1
 refine⟨⟨I.ok.mod,c.kind,I.ok.glob,I.ok.blt,Mb _,λ x y a e1 e2=>I.ok.inj x y a (sub x a e1) (sub y a e2),λ x hx=>i5 hcl (kinds x hx),(λ _ _ z=>nomatch z),I.ok.hd,I.ok.frames,.inl rfl,λ b hb'=>⟨Ms (hfl b hb'),λ x a e=>(hf b hb').2.2.2.2.1 x a (sub x a e)⟩,
   I.bs,MQ I.ok.bsz I.sz,(λ b o e hb'=>by rw [hb b hb'] at e;cases e),λ b hb' hz=>?_,I.stack,I.stkFree⟩,ho,by rw [hg];exact I.bare,Un.kept hk,⟨m,hns,λ i x v e1 e2 e3=>?_⟩,λ x a e=>?_,I.hok.fresh (Mb _),λ x a e=>I.freeC x a (sub x a e),λ p hp=>?_,I.hok.kept hk,?_⟩
 ·rcases ML.mp (I.stkSub b hz) with z|z
  ·exact(hf b hb').2.1 z
  ·exact(hf b hb').2.2.1 z
 ·have hi:k<=i:=by
   refine Ox λ hi=>?_;rw [MN (by simpa using hi)] at e2;simp [NB,hi] at e2
  obtain⟨j,rfl⟩:∃ j,i=k+j:=⟨i - k,by omega⟩;rw [MG (by simp)] at e2;have e2':σ[j]? = some (some v):=by simpa using e2
  have e:(relabel scope X.env).names.lookup x=(scope.names.lookup x).map λ k=>if (k == NameKind.free && X.env.scope.kind == .function && X.env.kindOf x == some .cell) then NameKind.cell else k:=dU
  have hfree:scope.names.lookup x=some .free:=by
   cases q:scope.names.lookup x with
   | none=>
    rcases e3 with z|z|z
    all_goals (have z':(relabel scope X.env).names.lookup x=some _:=z;rw [e,q] at z';simp at z')
   | some j'=>
    have h1:j' ≠ .cell:=c.cell (x,j') (fP q);have h2:j' ≠ .local:=λ z=>c.loc j x e1 (by rw [q,z])
    rcases e3 with z|z|z
    all_goals (have z':(relabel scope X.env).names.lookup x=some _:=z;rw [e,q] at z';cases j'<;>simp_all)
  have hX:=c.sub j x e1 hfree;have hcellX:=c.free (x,.free) (fP hfree) rfl;obtain⟨m0,hn0,hl0⟩:=I.loc;obtain⟨u,r,l⟩:=hl0 j x v hX e2' (.inr (.inl hcellX));refine⟨u,r,?_⟩
  rcases l with ⟨z,_⟩|⟨_,a,ea,hz⟩
  ·have z':X.env.scope.names.lookup x=some .local:=z;rw [hcellX] at z';cases z'
  ·obtain⟨a',ea'⟩:=i5 (acc:=[]) hcl hfree;have e4:=sub x a' ea';rw [ea] at e4;cases e4;refine .inr ⟨.inl ?_,a,ea',?_⟩
   ·show (relabel scope X.env).names.lookup x=some .cell
    rw [e,hfree];have k1:(X.env.scope.kind == .function)=true:=by rw [I.ok.kind];rfl
    have k2:(X.env.kindOf x == some .cell)=true:=by
     have:X.env.kindOf x=some .cell:=hcellX;rw [this];rfl
    simp [k1,k2]
   ·obtain⟨o,h1,h2⟩:=hz;exact⟨o,hk _ _ h1,h2⟩
 ·obtain⟨v,o,h1,h2⟩:=I.cell x a (sub x a e);exact⟨v,o,hk _ _ h1,h2⟩
 ·have hp':p∈X.pn++pins:=by simpa using hp
  obtain⟨e,n,nl,nf,d⟩:=I.pin p hp';refine⟨hk _ _ e,n,ne _ _ e,λ z=>?_,d⟩
  rcases ML.mp (I.stkSub _ z) with z|z
  ·exact nl z
  ·exact nf z
 ·show (List.replicate k none++σ).length=N'.length
  rw [c.len,Ml,Nl,I.len]
theorem lh{elt iter tg:Expr}{ifs:List Expr}{scope:Scope}{pos:Pos}{g:TG}{tt:TT}{te:TE}{N':List Str}{k:Nat}{it:Addr}{J:It}{fp:List Addr}{tn:Nat->Heap->Prop}{pins:List (Addr × Obj)}{σ:St}{H:Hp}{s:Shared}{Q:VK}{RR:Value->Addr->Result->Shared->Prop}{E:Value->Shared->Prop}
  (c:jb X scope N' k) (hc:X.calm=true) (I:Inv X pins σ H s) (T:AV X.prog X.w X.K tg J fp it tn) (st:tn 0 s.heap) (hf:∀ b∈fp,kO X pins H b)
  (hg:∀ C s₀ H₀ ex pn,PG (cCx X scope N' C s₀ H₀ ex pn) tg g) (ht:∀ C s₀ H₀ ex pn,PTs (cCx X scope N' C s₀ H₀ ex pn) ifs tt) (he:∀ C s₀ H₀ ex pn,PE (cCx X scope N' C s₀ H₀ ex pn) elt te)
  (h:∀ D,H D=none->∃ W:Nat->Nat->List V->Hp->Prop,(∃ m,W 0 m [] (upd H D (.lst [])))/\∀ i m ys H,W i m ys H →
   (J.stop i H/\Q (.ref D) H)\/(J.go i H/\∃ N:List V->Hp->Prop,(∀ ys' H',N ys' H'->∃ m',m' < m/\W (i+1) m' ys' H') /\
    ∀ x H',J.yld i H x H'->g x (List.replicate k none++σ) H' λ σ2 H2=>(∃ vs:St,vs.length=k/\σ2=vs++σ)/\tt σ2 H2 λ b H3=>if b=true then te σ2 H3 λ y H4=>H4 D=some (.lst ys)/\ys.length < sizeLine/\N (ys++[y]) (upd H4 D (.lst (ys++[y]))) else N ys H3))
  (fin:∀ D C s' H' m,s'.heap.Ns C m->C ≠ X.env.locals->(∀ x a,X.env.cells.lookup x=some a->a ≠ C)->(H' C=none/\X.s₀.heap.objs.size<=C/\∀ p∈X.pn++pins,p.1 ≠ C)->(∀ h',Heap.SameBut C s'.heap h'->Inv X pins σ H' { s' with heap:=h' })->Q (.ref D) H'->RR (.ref D) C (.ok .next) s') :
  wpAny (model X.prog X.w) X.A (newList []) (λ acc s₃=>wpAny (model X.prog X.w) X.A (newFunctionEnv scope X.env.globals (nz X.env.cells scope.names []) [] X.env.qual none .none (some X.env)) (λ cenv s₄=>
   codeAny (model X.prog X.w) X.A (.compStart (.ListComp elt [⟨tg,iter,ifs,0⟩] scope pos) 0 (.ref it) acc { cenv with scope:=relabel scope X.env }) (RR acc cenv.locals) s₄) E s₃) E s:=by
 refine wpAny_newObj_type (wpAny_newFunctionEnv c.cell (by intro y hy;simp at hy) (λ h₁ hns₁ hsb₁=>?_) c.kind);dsimp only at hns₁ hsb₁ ⊢;have I3:Inv X pins σ (upd H s.heap.objs.size (.lst [])) { s with heap:=s.heap.push { cls:=.type "list",data:=.seq ([]:List Value).toArray },toks:=s.toks }:=I.lnew (ys:=[]) (its:=[]) .nil (Nat.zero_le _);generalize hH2:s.heap.push { cls:=.type "list",dict:=none,data:=.seq ([]:List Value).toArray }=hp at hns₁ hsb₁ I3 ⊢;have hlt:∀ b o,s.heap.get? b=some o->hp.get? b=some o:=λ b o e=>by rw [←hH2];exact Heap.get?_push_of_some _ e
 have hnD:H s.heap.objs.size=none:=I.hok.fresh (Mb _);have kp:∀ b o,hp.get? b=some o->h₁.get? b=some o:=λ b o e=>hsb₁.extBut b o (Ms (Mc e)) (Ma _ e)
 have stk:∀ b∈fp,s.heap.get? b ≠ none:=λ b hb z=>by
  obtain⟨o,e,_⟩:=T.obj _ _ st b hb;rw [z] at e;cases e
 have flt:∀ b∈fp,b < s.heap.objs.size:=λ b hb=>by
  obtain⟨o,e,_⟩:=T.obj _ _ st b hb;exact Mc e
 have fpD:∀ b∈fp,b ≠ s.heap.objs.size:=λ b hb=>Ms (flt b hb)
 have hf3:∀ b∈fp,kO X pins (upd H s.heap.objs.size (.lst [])) b:=λ b hb=>by
  obtain⟨a1,a2⟩:=hf b hb;exact⟨by rw [ae (fpD b hb)];exact a1,a2⟩
 have hnb:∀ b∈fp,X.base.get? b=none:=λ b hb=>by
  cases e:X.base.get? b with
  | none=>rfl
  | some o=>
   rcases (hf b hb).2.2.2.1 with z|z
   ·exact absurd z (I.ok.noex b o e)
   ·have:=Mc (I.ok.bs b o e).1;exact absurd (Mm this z) (M5 _)
 have hsz:s.heap.objs.size < hp.objs.size:=by rw [←hH2,Na];exact NF _
 have IY:=Au (s₄:={ s with heap:=h₁,toks:=s.toks+([]:List (Str × Value)).length }) (fp:=fp) c hc I3 hf3 (λ b hb=>Ny (flt b hb) hsz) hnb hns₁ kp rfl rfl;obtain⟨W,⟨m0,w0⟩,turn⟩:=h s.heap.objs.size hnD
 have run:=yd (Y:=cCx X scope N' hp.objs.size { s with heap:=hp,toks:=s.toks } (upd H s.heap.objs.size (.lst [])) fp (X.pn++pins)) (tg:=tg) (elt:=elt) (iter:=iter) (ifs:=ifs) (scope:=scope) (pos:=pos) (it:=it) (D:=s.heap.objs.size) (k:=k) (σ:=σ) (Q:=Q)
  hc rfl (hg _ _ _ _ _) (ht _ _ _ _ _) (he _ _ _ _ _) T (λ H' hn b hb=>⟨hn b hb,Ms (Ny (flt b hb) hsz),λ z=>(IY.ok.exfs b hb) z,.inl hb,λ x a e=>(IY.ok.exf b hb).2 x a e,λ p hp=>by
   have hp':p∈X.pn++pins:=by simpa using hp
   exact(hf b hb).2.2.2.2.2 p hp'⟩) W turn m0
 have st₁:tn 0 h₁:=T.keep _ _ _ st λ b hb o e=>kp b o (hlt b o e);have go:=run { s with heap:=h₁,toks:=s.toks+([]:List (Str × Value)).length } ⟨0,[],_,IY,st₁,λ b hb=>(hf3 b hb).1,w0⟩
 have out:∀ r s',(r=Except.ok Flow.next/\∃ H',Inv (cCx X scope N' hp.objs.size { s with heap:=hp,toks:=s.toks } (upd H s.heap.objs.size (.lst [])) fp (X.pn++pins)) [] (List.replicate k none++σ) H' s'/\Q (.ref s.heap.objs.size) H')->RR (.ref s.heap.objs.size) hp.objs.size r s':=by
  rintro r s' ⟨rfl,H',J',q⟩;obtain⟨m,hn,_⟩:=J'.loc;have hC:hp.objs.size ≠ X.env.locals:=Om (Mm I.lt (NK hsz));refine fin _ _ s' H' m hn hC (λ x a e=>?_) ⟨J'.free,MQ I.sz (NK hsz),λ p hp'=>Ms (Ny (Mc (I.pin p hp').1) hsz)⟩ (λ h' hs'=>?_) q
  ·obtain⟨v,o,h1,_⟩:=I.cell x a e;exact Ms (Ny (Mc h1) hsz)
  ·refine I.call' (ch:=fp) ?_ ?_ ?_ J'.bare λ b hb=>⟨(hf b hb).2.2.2.1,(hf b hb).2.1,(hf b hb).2.2.2.2.1,(hf b hb).2.2.2.2.2⟩
   ·exact J'.os
   ·have u1:Un (frs X.stack) fp H (upd H s.heap.objs.size (.lst [])) s.heap hp:=Un.laid hlt (Mb _) hnD;exact(u1.trans J'.base).but hs' λ b o e=>Ms (Ny (Mc e) hsz)
   ·exact J'.hok.but J'.free hs'
 exact codeAny_compStart_list (NJ go out) (T.self _ 0 _ _ _ st₁ (NJ go out))
theorem CM{elt iter tg:Expr}{ifs:List Expr}{scope:Scope}{pos:Pos}{wi:TI}{g:TG}{tt:TT}{te:TE}{N':List Str}{k:Nat}
  (c:jb X scope N' k) (hc:X.calm=true) (hi:PI X tg iter wi)
  (hg:∀ C s₀ H₀ ex pn,PG (cCx X scope N' C s₀ H₀ ex pn) tg g) (ht:∀ C s₀ H₀ ex pn,PTs (cCx X scope N' C s₀ H₀ ex pn) ifs tt) (he:∀ C s₀ H₀ ex pn,PE (cCx X scope N' C s₀ H₀ ex pn) elt te)
  (hs:∀ x,foldedSetIterable iter X.env x=pure x:=by intro _;rfl):PE X (.ListComp elt [⟨tg,iter,ifs,0⟩] scope pos) (BQ k wi g tt te):=by
 intro pins s σ H Q I h;rw [PySem.eval_ListComp];refine OW (use:=none) rfl hs (gW (c.cells I)) c.kind c.names (thn (hi pins s σ H _ I h) λ v s1 h1=>thn h1 λ itv s2 h2=>?_);obtain⟨it,fp,tn,J,H2,rfl,I2,T,st2,f2,hW⟩:=h2;refine lh (RR:=λ acc C=>PySem.compPost (model X.prog X.w) X.A X.xe none (EP X pins σ Q) acc C) c hc I2 T st2 f2 hg ht he hW ?_;intro D C s' H' m hn _ _ _ hI q;exact⟨m,hn,λ h' hs'=>⟨.ref D,H',hI h' hs',rfl,q⟩⟩
def E3(i:Nat)(te:TE):TS:=λ D σ H=>te σ H λ x H1=>D.nx (σ.set i (some x)) H1
theorem CA{elt iter tg:Expr}{ifs:List Expr}{scope:Scope}{pos spos py:Pos}{wi:TI}{g:TG}{tt:TT}{te:TE}{N':List Str}{k i:Nat}{y:Str}
  (hN:X.N.Nodup) (hi':X.N[i]? = some y) (hy:Loc X.env.scope y)
  (c:jb X scope N' k) (hc:X.calm=true) (hi:PI X tg iter wi)
  (hg:∀ C s₀ H₀ ex pn,PG (cCx X scope N' C s₀ H₀ ex pn) tg g) (ht:∀ C s₀ H₀ ex pn,PTs (cCx X scope N' C s₀ H₀ ex pn) ifs tt) (he:∀ C s₀ H₀ ex pn,PE (cCx X scope N' C s₀ H₀ ex pn) elt te)
  (hsw:swapsWith (.ListComp elt [⟨tg,iter,ifs,0⟩] scope pos) (some (.Name y py)) spos.line X.env=pure true:=by rfl)
  (hs:∀ x,foldedSetIterable iter X.env x=pure x:=by intro _;rfl) (hf:X.fn y=true\/X.env.scope.names.lookup y=some .local:=by first|exact .inl rfl|exact .inr rfl|assumption) :
  PS X (.Assign [.Name y py] (.ListComp elt [⟨tg,iter,ifs,0⟩] scope pos) spos) (E3 i (BQ k wi g tt te)):=by
 intro pins s σ H D I h;rw [PySem.exec_Assign_Name_used _ _ _ _ hsw];refine L7 (NS (L7 ?_))
 show wpAny _ X.A (do let _ ←comprehension (.ListComp elt [⟨tg,iter,ifs,0⟩] scope pos) scope X.env _ (newList []) false (eval iter X.env) (some (assign (.Name y py) X.env))) _ _ s
 refine L7 (thn (OW (use:=some (assign (.Name y py) X.env)) (Q:=λ _ s'=>SP X pins D .next s') rfl hs (gW (c.cells I)) c.kind c.names (thn (hi pins s σ H _ I h) λ v s1 h1=>thn h1 λ itv s2 h2=>?_)) λ _ s' hq=>Mf (Mf hq));obtain⟨it,fp,tn,J,H2,rfl,I2,T,st2,f2,hW⟩:=h2;refine lh (Q:=λ x H1=>D.nx (σ.set i (some x)) H1) (RR:=λ acc C=>PySem.compPost (model X.prog X.w) X.A X.xe (some (assign (.Name y py) X.env)) (λ _ s'=>SP X pins D .next s') acc C) c hc I2 T st2 f2 hg ht he hW ?_;intro D' C s' H' m hn hCl hCc hCo hI q
 show wpAny _ X.A (assign (.Name y py) X.env (.ref D')) _ _ s'
 have I':Inv X pins σ H' s':=hI s'.heap (Heap.SameBut.refl _ _);refine wpAny_assign_Name (nV I' hN hi' hy (show bc (.ref D') (.ref D') from rfl) (λ s'' I'' ⟨a,sb,ha⟩=>?_) hf)
 have hCa:C ≠ a:=by
  rcases ha with rfl|ha
  ·exact hCl
  ·exact λ z=>hCc _ _ ha z.symm
 refine⟨m,hn.sameBut sb hCa,λ h' hs'=>⟨_,H',?_,q⟩⟩;exact I''.turned (t':=s''.toks) (λ b o hb e=>(hs'.2 b hb).trans e) hCo.1 hCl (.inr hCo.2.1) hCc hCo.2.2
end
def nG(h:Heap)(e:Addr)(cls:Value)(d:Option Addr)(T:Addr):Prop:=
 ∃ oe vs oT ts,h.get? e=some oe/\oe.cls=cls/\oe.dict=d/\oe.data=.fields vs/\vs[1]? = some (.ref T)/\T ≠ e/\h.get? T=some oT/\oT.data=.fields ts/\ts[3]? = some .none/\vs[2]? = some .none
def CX1(P:Program)(w:World):CXT:=λ outer H s E ev s'=>∃ e T cls d H',ev=.ref e/\s'.os=s.os/\AllBare s'.gens/\Un (frs outer) [] H H' s.heap s'.heap/\HOk P w H' s'.heap /\
 s.heap.get? e=none/\s.heap.get? T=none/\H' e=none/\H' T=none/\nG s'.heap e cls d T/\(∀ dx,d=some dx->∃ fs,H' dx=some (.xd fs))/\E cls d H'
theorem ya(f:Array Value->Array Value)(o:Obj):(Obj.mapFields f o).dict=o.dict:=by
 unfold Obj.mapFields;split<;>rfl
structure uI(fs:List Addr)(e:Addr)(no:Addr->Prop)(h h':Heap):Prop where
 keep:∀ b o,b ≠ e->¬ no b->b ∉ fs->h.get? b=some o->h'.get? b=some o
 slot:∀ b o,b ≠ e->¬ no b->b∈fs->h.get? b=some o->∃ sl,h'.get? b=some { o with slots:=sl }
 size:h.objs.size<=h'.objs.size
section
variable {M:Model}{A:Around}{E:Value->Shared->Prop}{s:Shared}
theorem BA{base:Heap}{env:Env}{outer:List Env}{L e:Addr}{oe:Obj}{vs:Array Value}{head:Value}{hadNext:Bool}{Q:Unit->Shared->Prop}
  (hfr:A.frames=some (env::outer)) (hl:s.heap.FunFrames base (env::outer)) (hf:env.frame=some L) (he:s.heap.get? e=some oe) (hd:oe.data=.fields vs) (hsz:1 < vs.size) (h2c:vs[2]? = some .none)
  (hQ:∀ h',uI (frs (env::outer)) e (λ _=>False) s.heap h'->(∃ T oe' vs' oT ts,s.heap.get? T=none/\h'.get? e=some oe'/\oe'.cls=oe.cls/\oe'.dict=oe.dict/\oe'.data=.fields vs'/\vs'[1]? = some (.ref T)/\T ≠ e/\h'.get? T=some oT/\oT.data=.fields ts/\ts[3]? = some (rawInt L)/\vs'[2]? = some .none)->Q () { s with heap:=h' }) :
  wpAny M A (do let a ←frameOf env;let pl ←entryPlaceOf L hadNext;let b ←EntryCells.newEntry head a .none (rawInt L) .none pl;setField (.ref e) 1 b) Q E s:=by
 have efr:e ∉ frs (env::outer):=λ z=>by
  obtain⟨_,o,q1,q2⟩:=hl.mem z;rw [he] at q1;cases q1;exact q2 vs hd
 refine wpAny_bind (wpAny_frameOf_fun hfr hl hf λ g1 sg=>?_);refine wpAny_bind (wpAny_entryPlaceOf λ pl ipl=>?_);unfold EntryCells.newEntry newFields;refine wpAny_bind (wpAny_newObj_type ?_ (ipl.sizeOk5 _ _ _ _ _));have e1:g1.get? e=some oe:=(sg.2.1 e efr).trans he;generalize hnew:({ cls:=.type "traceback",dict:=none,data:=.fields ([head,.ref L,.none,rawInt L,.none]++(if pl.isEmpty then List.replicate 6 Value.none else pl)).toArray }:Obj)=oN;have dN:oN.data=.fields ([head,.ref L,.none,rawInt L,.none]++(if pl.isEmpty then List.replicate 6 Value.none else pl)).toArray:=by rw [←hnew]
 have e2:(g1.push oN).get? e=some oe:=Ma _ e1;refine OV e2 hd hsz (hQ _ ?_ ?_)
 ·have other:∀ b o,b ≠ e->g1.get? b=some o->((g1.push oN).update e (Obj.mapFields (·.setIfInBounds 1 (Value.ref g1.objs.size)))).get? b=some o:=λ b o hb q=>by
   rw [MO _ _ (NA hb)];exact Ma _ q
  refine⟨λ b o hb _ hfs q=>other b o hb ((sg.2.1 b hfs).trans q),λ b o hb _ _ q=>?_,?_⟩
  ·obtain⟨sl,q'⟩:=sg.2.2 b o q;exact⟨sl,other b _ hb q'⟩
  ·have z1:g1.objs.size=s.heap.objs.size:=sg.1;have z2:=((O2 (g1.push oN) e (Obj.mapFields (·.setIfInBounds 1 (Value.ref g1.objs.size))))).1;rw [z2,Na];omega
 ·have ne:g1.objs.size ≠ e:=Om (Mc e1);have d3:=Ow hd (·.setIfInBounds 1 (Value.ref g1.objs.size));refine⟨g1.objs.size,_,_,oN,_,?_,MV _ e2 (NR d3),Obj.cls_mapFields _ _,ya _ _,d3,by simp [hsz],ne,?_,dN,by simp,by rw [OU (by decide)];exact h2c⟩
  ·have z1:g1.objs.size=s.heap.objs.size:=sg.1;rw [z1];exact Nd (Mb _)
  ·rw [MO _ _ (NA ne)];exact Mn _ (NR dN)
theorem vQ{e T:Addr}{oe oT:Obj}{vs ts:Array Value}{Q:Unit->Shared->Prop}(he:s.heap.get? e=some oe)(hd:oe.data=.fields vs)(h1:vs[1]? = some (.ref T))(hT:s.heap.get? T=some oT)(hdT:oT.data=.fields ts)(h3:3 < ts.size)(ne:T ≠ e)(h2c:vs[2]? = some .none)
  (hQ:∀ h',(∀ b,b ≠ T->h'.get? b=s.heap.get? b)->h'.objs.size=s.heap.objs.size->nG h' e oe.cls oe.dict T->Q () { s with heap:=h' }):wpAny M A (setFlight (.ref e) none) Q E s:=by
 unfold setFlight;refine wpAny_bind (wpAny_field he hd h1 ?_);rw [if_pos (show (Value.ref T != Value.none)=true from by simp)];have sb:=Heap.SameBut.update s.heap T (Obj.mapFields (·.setIfInBounds 3 ((none:Option Addr).elim Value.none λ f=>rawInt f)));refine wpAny_setField hT hdT h3 (hQ _ sb.2 sb.1 ?_);have d3:=Obj.data_mapFields hdT (·.setIfInBounds 3 ((none:Option Addr).elim Value.none λ f=>rawInt f));exact⟨oe,vs,_,_,(sb.2 e (Ne.symm ne)).trans he,rfl,rfl,hd,h1,ne,Heap.get?_update_self _ hT (Obj.isFreed_of_fields d3),d3,by simp [h3],h2c⟩
theorem rC{base:Heap}{env:Env}{outer:List Env}{L e:Addr}{oe:Obj}{vs:Array Value}{Q:Unit->Shared->Prop}
  (hfr:A.frames=some (env::outer)) (hl:s.heap.FunFrames base (env::outer)) (hf:env.frame=some L) (he:s.heap.get? e=some oe) (hd:oe.data=.fields vs) (h1:vs[1]? = some .none) (h2c:vs[2]? = some .none)
  (hQ:∀ h' T,uI (frs (env::outer)) e (λ _=>False) s.heap h'->s.heap.get? T=none->nG h' e oe.cls oe.dict T->Q () { s with heap:=h' }) :
  wpAny M A (noteFrame (.ref e) env) (λ _ s2=>wpAny M A (setFlight (.ref e) none) Q E s2) E s:=by
 unfold noteFrame;simp only [hf];refine wpAny_bind (wpAny_field he hd h1 ?_);rw [if_neg (by decide)];refine BA hfr hl hf he hd (Array.getElem?_eq_some_iff.mp h1).1 h2c λ g ng hx=>?_;obtain⟨T,oe',vs',oT,ts,nT,q1,q2,q2d,q3,q4,ne,q5,q6,q7,q8⟩:=hx;refine vQ (s:={ s with heap:=g }) q1 q3 q4 q5 q6 (Array.getElem?_eq_some_iff.mp q7).1 ne q8 λ g' sb sz ex=>?_;rw [q2,q2d] at ex;have lt:∀ b o,s.heap.get? b=some o->b ≠ T:=λ b o q z=>by rw [z,nT] at q;cases q
 exact hQ g' T ⟨λ b o hb hn hfs q=>(sb b (lt b o q)).trans (ng.keep b o hb hn hfs q),λ b o hb hn hfs q=>by
  obtain⟨sl,q'⟩:=ng.slot b o hb hn hfs q;exact⟨sl,(sb b (lt b o q)).trans q'⟩,MQ ng.size (Oo sz.symm)⟩ nT ex
theorem oa{base:Heap}{env:Env}{outer:List Env}{L e T:Addr}{cls:Value}{dd:Option Addr}{Q:Unit->Shared->Prop}
  (hfr:A.frames=some (env::outer)) (hl:s.heap.FunFrames base (env::outer)) (hf:env.frame=some L) (hx:nG s.heap e cls dd T) (hfe:e ∉ frs (env::outer)) (hfT:T ∉ frs (env::outer)) (hb:base.get? T=none)
  (hQ:∀ h' T',uI (frs (env::outer)) e (λ b=>b=T) s.heap h'->s.heap.get? T'=none->nG h' e cls dd T'->Q () { s with heap:=h' }) :
  wpAny M A (noteFrame (.ref e) env) (λ _ s2=>wpAny M A (setFlight (.ref e) none) Q E s2) E s:=by
 obtain⟨oe,vs,oT,ts,he,rfl,rfl,hd,h1,ne,hT,hdT,h3,h2c⟩:=hx;unfold noteFrame;simp only [hf];refine wpAny_bind (wpAny_field he hd h1 ?_);rw [if_pos (show (Value.ref T != Value.none)=true from by simp)];refine wpAny_bind (wpAny_field hT hdT h3 ?_);rw [if_neg (show ¬ ((Value.none == rawInt L)=true) from by simp [rawInt])];have sb0:=Heap.SameBut.update s.heap T (Obj.mapFields (·.setIfInBounds 3 Value.none));refine wpAny_bind (wpAny_setField hT hdT (Array.getElem?_eq_some_iff.mp h3).1 ?_);generalize hg0:s.heap.update T (Obj.mapFields (·.setIfInBounds 3 Value.none))=g0 at sb0;have fl:g0.FunFrames base (env::outer):=hl.of_keeps λ b o q hnf=>⟨o,(sb0.2 b (λ z=>by rw [z,hT] at q;cases q;exact hnf ts hdT)).trans q,rfl⟩;have he0:g0.get? e=some oe:=(sb0.2 e (Ne.symm ne)).trans he;refine BA (s:={ s with heap:=g0 }) hfr fl hf he0 hd (Array.getElem?_eq_some_iff.mp h1).1 h2c λ g ng hx=>?_;obtain⟨T',oe',vs',oT',ts',nT,q1,q2,q2d,q3,q4,ne',q5,q6,q7,q8⟩:=hx;refine vQ (s:={ s with heap:=g }) q1 q3 q4 q5 q6 (Array.getElem?_eq_some_iff.mp q7).1 ne' q8 λ g' sb sz ex=>?_;rw [q2,q2d] at ex
 have tT:T ≠ T':=λ z=>by
  subst z;have:=MV (Obj.mapFields (·.setIfInBounds 3 Value.none)) hT (NR (Ow hdT _));rw [hg0] at this;have nT':g0.get? T=none:=nT;rw [this] at nT';cases nT'
 have nT0:s.heap.get? T'=none:=(sb0.2 T' (NA tT)).symm.trans nT;have lt:∀ b o,s.heap.get? b=some o->b ≠ T':=λ b o q z=>by rw [z,nT0] at q;cases q
 exact hQ g' T' ⟨λ b o hb hn hfs q=>(sb b (lt b o q)).trans (ng.keep b o hb (λ z=>z) hfs ((sb0.2 b hn).trans q)),λ b o hb hn hfs q=>by
  obtain⟨sl,q'⟩:=ng.slot b o hb (λ z=>z) hfs ((sb0.2 b hn).trans q);exact⟨sl,(sb b (lt b o q)).trans q'⟩,MQ (Oo sb0.1.symm) (MQ ng.size (Oo sz.symm))⟩ nT0 ex
end
theorem HOk.noted{P:Program}{w:World}{H:Hp}{h h':Heap}{fs:List Addr}{e:Addr}{no:Addr->Prop}(ok:HOk P w H h)(n:uI fs e no h h')(he:H e=none)(hn:∀ b,no b->H b=none)(hf:∀ b∈fs,H b=none):HOk P w H h':=λ b ob q=>by
 refine(ok b ob q).stay (λ c v hc r=>n.keep c v ?_ ?_ ?_ r) (λ _ z=>z) (λ _ _ z=>z) λ _ _ z=>z
 all_goals
  rcases hc with z|z
  all_goals intro k
 ·rw [←z,k,he] at q;cases q
 ·rw [k,he] at z;cases z
 ·rw [←z,hn _ k] at q;cases q
 ·rw [hn _ k] at z;cases z
 ·rw [←z,hf _ k] at q;cases q
 ·rw [hf _ k] at z;cases z
theorem Un.noted{fs fs':List Addr}{H H':Hp}{h h1 h2:Heap}{e:Addr}{no:Addr->Prop}(u:Un fs [] H H' h h1)(n:uI fs' e no h1 h2)(he:h.get? e=none)(hn:∀ b,no b->h.get? b=none)(hs:∀ b∈fs',b∈fs\/h.get? b=none):Un fs [] H H' h h2:=by
 have ne:∀ b o,h.get? b=some o->b ≠ e/\¬ no b:=λ b o q=>⟨λ z=>(by rw [z,he] at q;cases q),λ z=>(by rw [hn b z] at q;cases q)⟩
 have nf:∀ b o,h.get? b=some o->b ∉ fs->b ∉ fs':=λ b o q hb z=>by
  rcases hs b z with k|k
  ·exact hb k
  ·rw [k] at q;cases q
 refine⟨λ b o q a hb hx=>n.keep b o (ne b o q).1 (ne b o q).2 (nf b o q hb) (u.keep b o q a hb hx),λ b o q a hb hx=>?_,u.free,λ b o q hx=>?_,u.tups,u.frzs,u.tbls⟩
 ·obtain⟨sl,r⟩:=u.slot b o q a hb hx
  by_cases hb':b∈fs'
  ·obtain⟨sl',r'⟩:=n.slot b _ (ne b o q).1 (ne b o q).2 hb' r;exact⟨sl',r'⟩
  ·exact⟨sl,n.keep b _ (ne b o q).1 (ne b o q).2 hb' r⟩
 ·obtain⟨o',r⟩:=u.there b o q hx
  by_cases hb':b∈fs'
  ·obtain⟨sl',r'⟩:=n.slot b _ (ne b o q).1 (ne b o q).2 hb' r;exact⟨_,r'⟩
  ·exact⟨_,n.keep b _ (ne b o q).1 (ne b o q).2 hb' r⟩
def BK(CX:CXT)(X:Cx)(E:XK)(σ:St):Prop:=∀ (pins:List (Addr × Obj)) (H:Hp) (s:Shared) (e:Value) (s':Shared),Inv X pins σ H s->CX X.stack H s E e s'->X.xe e s'
def rT(X:Cx)(E:XK)(σ:St):Prop:=∀ (pins:List (Addr × Obj)) (H:Hp) (s:Shared) (h':Heap) (e:Addr) (C:Addr) (us:List Value),Inv X pins σ H s->Heap.MadeExcOf s.heap h' e (.ref C) us->E (.ref C) none H->X.xe (.ref e) { s with heap:=h' }
theorem aV.there{P:Program}{w:World}{H:Hp}{h:Heap}{a:Addr}{o:HO}(x:aV P w H h a o):∃ ob,h.get? a=some ob:=by
 cases o with
 | lst xs=>obtain⟨_,_,_,_,e⟩:=x;exact⟨_,e⟩
 | tup xs=>obtain⟨_,_,_,ob,e,_⟩:=x;exact⟨ob,e⟩
 | dK kvs=>obtain⟨_,_,_,_,ob,_,_,e,_⟩:=x;exact⟨ob,e⟩
 | dT kvs=>obtain⟨_,_,_,_,ob,_,_,e,_⟩:=x;exact⟨ob,e⟩
 | set S n=>obtain⟨ob,_,_,_,e,_⟩:=x;exact⟨ob,e⟩
 | ins C dx fs=>obtain⟨_,_,_,e,_⟩:=x;exact⟨_,e⟩
 | own y=>exact x
 | xd fs=>obtain⟨_,⟨ob,_,_,e,_⟩,_⟩:=x;exact⟨ob,e⟩
 | rng lo hi=>obtain⟨_,_,_,e⟩:=x;exact⟨_,e⟩
 | frz ob u=>exact⟨_,x.1⟩
 | tbl ps=>obtain⟨_,_,_,_,e,_⟩:=x;exact⟨_,e⟩
 | cod q=>obtain⟨_,_,_,e,_⟩:=x;exact⟨_,e⟩
 | met f y=>exact⟨_,x⟩
 | ext φ=>exact x.2.1
theorem HOk.gone{P:Program}{w:World}{H:Hp}{h:Heap}{a:Addr}(ok:HOk P w H h)(e:h.get? a=none):H a=none:=by
 cases q:H a with
 | none=>rfl
 | some o=>
  obtain⟨ob,z⟩:=(ok a o q).there;rw [e] at z;cases z
theorem Un.gone{fs:List Addr}{H H':Hp}{h h1:Heap}{a:Addr}(u:Un fs [] H H' h h1)(e:h1.get? a=none):h.get? a=none:=by
 cases q:h.get? a with
 | none=>rfl
 | some o=>
  obtain⟨o',z⟩:=u.there a o q (by simp);rw [e] at z;cases z
theorem sF{P:Program}{w:World}{K:W.Frag}{mg:Str->Option Value}{base:Heap}{N:List Str}{qual:Str}{scope:Scope}{f:Addr}{cd:Value}{A:Around}{outer:List Env}{s₀:Shared}{H₀:Hp}{E:XK}{σ:St} :
  rT (r6 (CX1 P w) P w K mg base N qual scope f cd A outer s₀ H₀ E) E σ:=by
 intro pins H s h' e C us I hm hE;obtain⟨t,he,_,_⟩:=hm.there
 show wpAny (model P w) (A.deeper (envOfC qual scope s₀.heap.objs.size f cd)) (leaving (envOfC qual scope s₀.heap.objs.size f cd) (.ref e)) _ _ _
 unfold leaving;have un:Un (frs outer) [] H₀ H s₀.heap s.heap:=I.base;have fl:h'.FunFrames base (envOfC qual scope s₀.heap.objs.size f cd::outer):=I.stack.of_keeps λ b o q _=>⟨o,hm.keeps b o q,rfl⟩;refine wpAny_bind (rC (s:={ s with heap:=h' }) (base:=base) (outer:=outer) I.ok.frames fl rfl he rfl rfl rfl λ g T ng nT ex=>?_)
 have nT':s.heap.get? T=none:=by
  cases q:s.heap.get? T with
  | none=>rfl
  | some o=>
   have z:=hm.keeps T o q;have nT2:h'.get? T=none:=nT;rw [nT2] at z;cases z
 have u2:Un (frs outer) [] H₀ H s₀.heap h':=un.trans (Un.kept hm.keeps);refine⟨e,T,.ref C,none,H,rfl,I.os,I.bare,u2.noted ng (un.gone hm.new) (λ _ z=>z.elim) (λ b hb=>?_),(I.hok.kept hm.keeps).noted ng (I.hok.gone hm.new) (λ _ z=>z.elim) I.stkFree,un.gone hm.new,un.gone nT',I.hok.gone hm.new,I.hok.gone nT',ex,(λ _ z=>nomatch z),hE⟩
 rcases ML.mp (I.stkSub b hb) with z|z
 ·exact .inr (by rw [z];exact Nd (Mb _))
 ·exact .inl z
theorem ed{P:Program}{w:World}{K:W.Frag}{mg:Str->Option Value}{base:Heap}{N:List Str}{qual:Str}{scope:Scope}{f:Addr}{cd:Value}{A:Around}{outer:List Env}{s₀:Shared}{H₀:Hp}{E:XK} :
  iC (CX1 P w) (r6 (CX1 P w) P w K mg base N qual scope f cd A outer s₀ H₀ E) E:=by
 intro pins σ H s ev s' I hc;obtain⟨e,T,cls,dd,H',rfl,os,bare,un1,hok,ne,nT,He,HT,ex,hxd,hE⟩:=hc
 show wpAny (model P w) (A.deeper (envOfC qual scope s₀.heap.objs.size f cd)) (leaving (envOfC qual scope s₀.heap.objs.size f cd) (.ref e)) _ _ _
 unfold leaving;have I2:Inv _ pins σ H' s':=I.call' (ch:=[]) os un1 hok bare (λ b z=>absurd z (by simp))
 have nf:∀ b,s.heap.get? b=none->b ∉ frs (envOfC qual scope s₀.heap.objs.size f cd::outer):=λ b hb z=>by
  obtain⟨_,o,q,_⟩:=I.stack.mem z;rw [hb] at q;cases q
 have nb:base.get? T=none:=by
  cases q:base.get? T with
  | none=>rfl
  | some o=>
   have:=I.bk T o q;rw [nT] at this;cases this
 have fl:s'.heap.FunFrames base (envOfC qual scope s₀.heap.objs.size f cd::outer):=I2.stack;refine L7 (oa (base:=base) (outer:=outer) I.ok.frames fl rfl ex (nf e ne) (nf T nT) nb λ g T' ng nT' ex'=>?_);have un0:Un (frs outer) [] H₀ H s₀.heap s.heap:=I.base;have un2:Un (frs outer) [] H₀ H' s₀.heap s'.heap:=I2.base;refine⟨e,T',cls,dd,H',rfl,I2.os,bare,un2.noted ng (un0.gone ne) (λ b z=>by rw [z];exact un0.gone nT) (λ b hb=>?_),hok.noted ng He (λ b z=>by rw [z];exact HT) I2.stkFree,un0.gone ne,un2.gone nT',He,hok.gone nT',ex',hxd,hE⟩
 rcases ML.mp (I.stkSub b hb) with z|z
 ·exact .inr (by rw [z];exact Nd (Mb _))
 ·exact .inl z
section
variable {X:Cx}
def A9(sp:Sp)(dvs:List V)(E:St->XK)(t:TA):TE:=λ σ H Q=>t σ H λ vs H1=>sp (vs++dvs) H1 Q (E σ)
theorem rq{CX:CXT}{k:Nat}{f:Addr}{fd:FuncData}{ps:List Str}{sp:Sp}{ds:List Value}{dvs:List V}{E:St->XK}{x:Str}{e:Expr}{es:List Expr}{t:TA}{p pos:Pos}
  (F:aW X.prog X.w X.K X.mg X.base CX k f fd ps sp) (hr:fE k X.A) (hg:Gl X x) (hm:X.mg x=some (.ref f)) (hk:W.keepIn X.K (.ref f)=true) (hb:az X.K fd ps ds) (hd:br dvs ds) (hx:∀ σ,BK CX X (E σ) σ)
  (ha:PA X (e::es) t) (hdb:(x == ("__debug__":Str))=false:=by decide) (he:starEach (e::es) X.env=(false,eval e X.env)::starEach es X.env:=by rfl) (hpl:(backTo pos (starEach es X.env)).any (·.1)=false:=by rfl) :
  PE X (.Call (.Name x p) (e::es) [] pos) (A9 sp dvs E t):=by
 intro pins s σ H Q I h;refine Nb (eu I hg hm ?_ hdb);refine W.callWith_K (h₀:=X.base) I.ok.mod.kin hk (thn (ha pos pins s σ H _ I h) λ us s1 ⟨vs,H1,I1,r,q⟩=>⟨I1.kIn,?_⟩) he hpl;have r2:br (vs++dvs) (us++ds):=r.append hd;have hl:(us++ds).length=ps.length:=by rw [←r2.length];exact F.len _ _ _ _ q
 refine NM (NJ (F.run X.A X.stack s1 H1 ⟨us,[]⟩ (us++ds) (vs++dvs) Q (E σ) hr I1.env0 (hb s1 us I1.kIn hl) r2 q) λ rr s' hq=>?_)
 cases rr with
 | error ev=>exact hx σ pins H1 s1 ev s' I1 hq
 | ok fl=>
  cases fl with
  | ret u=>exact I1.after hq
  | next=>exact False.elim hq
  | brk=>exact False.elim hq
  | cont=>exact False.elim hq
set_option genInjectivity false in
structure JD where
 nm:Str
 q:Str
 N:Addr
 bs:List Value
 bm:List Value
 hdct:Bool
 sn:List Str
 sub:List Value
 ab:Bool
 col:Option Bool
 dd:Option Addr
 k0:Option Value
 k1:Option Value
 k2:Option Value
 k3:Option Value
 k5:Option Value
def uX(K:W.Frag)(C:Addr)(z:Option Value)(bmB:List Value)(newId:String):Bool:=match K.lookup C with
 | some ⟨.type "type",_,.cls dat,slt⟩=>(match dat.mro,slt.toList with
  | .ref C'::up,[_,_,_,_,some (.builtin n),_]=>C' == C && n == newId && !dat.hasDel && W.tailIn K bmB up && W.nsOkIn K dat.ns && W.nsIn K dat.ns "__init__" == some z
  | _,_=>false)
 | _=>false
theorem BF{K:W.Frag}{C:Addr}{z:Option Value}(q0:uX K C z [.type "ValueError",.type "Exception",.type "BaseException",.type "object"] "ValueError.__new__"=true) :
  ∃ c:JD,K.lookup C=some (excClassObj c.nm c.q C c.N c.bs c.bm c.hdct c.sn c.sub c.ab c.col c.dd c.k0 c.k1 c.k2 c.k3 c.k5 "ValueError.__new__")/\W.tailIn K [.type "ValueError",.type "Exception",.type "BaseException",.type "object"] c.bm=true/\W.nsOkIn K c.N=true/\W.nsIn K c.N "__init__"=some z:=by
 unfold uX at q0;split at q0
 ·rename_i dd0 cdat slots0 look0;split at q0
  ·rename_i Cx0 tl0 g0 g1 g2 g3 nw g5 em es0
   simp only [Od,NY,Bool.not_eq_true'] at q0<;>skip
   obtain⟨⟨⟨⟨⟨rfl,rfl⟩,ndel⟩,tok⟩,nok⟩,noi⟩:=q0;obtain⟨c1,c2,c3,c4,c5,c6,c7,c8,c9,c10,c11⟩:=cdat;dsimp only at em ndel nok noi;subst em ndel;obtain⟨lst0⟩:=slots0;have es1:lst0=[g0,g1,g2,g3,some (.builtin "ValueError.__new__"),g5]:=es0;subst es1;exact⟨⟨c1,c5,c4,c2,tl0,c6,c7,c8,c9,c10,dd0,g0,g1,g2,g3,g5⟩,look0,tok,nok,noi⟩
  ·cases q0
 ·cases q0
structure LX(K:W.Frag)(C:Addr):Prop where
 ex:W.excIn K C [.type "ValueError",.type "Exception",.type "BaseException",.type "object"] "ValueError.__new__"=true
def A7(C:Addr)(E:St->XK)(t:TA):TS:=λ _ σ H=>t σ H λ vs H1=>vs.length<=sizeLine/\E σ (.ref C) none H1
theorem zz{C:Addr}{x:Str}{e₀:Expr}{cy:List Expr}{np cpos pos:Pos}{t:TA}{E:St->XK}(hc:X.calm=true)(hg:Gl X x)(hmg:X.mg x=some (.ref C))(O:LX X.K C)(hx:∀ σ,rT X (E σ) σ)(ha:PA X (e₀::cy) t)
  (he:starEach (e₀::cy) X.env=(false,eval e₀ X.env)::starEach cy X.env:=by rfl) (hplain:(backTo cpos (starEach cy X.env)).any (·.1)=false:=by rfl) (hdb:(x == ("__debug__":Str))=false:=by decide) :
  PS X (.Raise (some (.Call (.Name x np) (e₀::cy) [] cpos)) none pos) (A7 C E t):=by
 intro pins s σ H D I h;obtain⟨c,look0,tok,nok,noi⟩:=BF (z:=none) O.ex;have nsb:X.base.Ns c.N (X.base.nsMap c.N):=.of_isNs (W.isNs_of_in I.mod.kin nok)
 refine PySem.wpAny_Raise_call_subU (C:=C) (nm:=c.nm) (q:=c.q) (N:=c.N) (bs:=c.bs) (bm:=c.bm) (hdct:=c.hdct) (sn:=c.sn) (sub:=c.sub) (ab:=c.ab) (col:=c.col) (dd:=c.dd) (k0:=c.k0) (k1:=c.k1) (k2:=c.k2) (k3:=c.k3) (k5:=c.k5)
  Nq (by decide +kernel) Nq (mN:=X.base.nsMap c.N) ((W.tail_of_in I.kIn tok).hasType (by decide +kernel)) (I.ok.hd hc) (by rw [he];exact(OO _).trans hplain) (W.nsMap_none_of_in I.mod.kin nok noi) (eu I hg hmg ⟨rfl,?_⟩ hdb)
 have hh:=ha cpos pins s σ H _ I h;rw [he] at hh ⊢;exact OT (thn hh λ us s2 ⟨vs,H2,I2,r,hl,hE⟩=>⟨rfl,by rw [←r.length];exact hl,I2.kIn _ _ look0,nsb.keeps I2.bk,W.tail_of_in I2.kIn tok,λ h' e hm=>hx σ pins H2 s2 h' e C us I2 hm hE⟩)
abbrev Cx.mark(X:Cx)(e:Addr):Cx:={ X with A:=X.A.mark (some (.ref e)),calm:=false,xe:=λ _ _=>False }
theorem Inv.mark{pins:List (Addr × Obj)}{σ:St}{H:Hp}{s:Shared}(I:Inv X pins σ H s)(e:Addr):Inv (X.mark e) pins σ H s:=
 ⟨⟨I.ok.mod,I.ok.kind,I.ok.glob,I.ok.blt,I.ok.above,I.ok.inj,I.ok.has,I.ok.cab,(λ z=>by cases z),I.ok.frames,I.ok.stk,I.ok.exf,I.ok.bs,I.ok.bsz,I.ok.noex,I.ok.exfs,I.ok.funs,I.ok.frf⟩,I.os,I.bare,I.base,I.loc,I.cell,I.free,I.freeC,I.pin,I.hok,I.len⟩
theorem Inv.unmark{pins:List (Addr × Obj)}{σ:St}{H:Hp}{s:Shared}{e:Addr}(ok:X.Ok)(I:Inv (X.mark e) pins σ H s):Inv X pins σ H s:=
 ⟨ok,I.os,I.bare,I.base,I.loc,I.cell,I.free,I.freeC,I.pin,I.hok,I.len⟩
end
structure IL(K:W.Frag)(x qual:Str)(st:Stmt)(f:Addr)(fd:FuncData):Prop where
 ex:∃ (oc:Value) (od:Option Addr) (dV kV doc pm:Value) (an:Option Addr) (cdv ct:Value) (osl:Array (Option Value)),
  fd=W.fnOf x qual (ez st) (cj st) (aa st) dV kV doc pm an cdv ct/\K.lookup f=some ⟨oc,od,.func fd,osl⟩/\W.codeIn K cdv qual=true
 kp:W.keepIn K (.ref f)=true
section
variable {P:Program}{w:World}{K:PySem.W.Frag}{mg:Str->Option Value}{base:Heap}
theorem IL.ok{CX:CXT}{x qual:Str}{st:Stmt}{f:Addr}{fd:FuncData}{N ps:List Str}{k:Nat}{sp:Sp}(F:IL K x qual st f fd)(S:aj N ps (aa st))(len:∀ vs H Q E,sp vs H Q E->vs.length=ps.length)
  (hbody:∀ (cdv:Value) (A:Around) (outer:List Env) (s:Shared) (H:Hp) (vs:List V) (Q:VK) (E:XK),fE k (A.deeper (envOfC qual (aa st) s.heap.objs.size f cdv))->sp vs H Q E →
   ∃ t,PSs (r6 CX P w K mg base N qual (aa st) f cdv A outer s H E) (cj st) t/\t { nx:=λ _ H'=>Q .non H',rt:=Q } (au N vs) H):aW P w K mg base CX (k+1) f fd ps sp:=by
 obtain⟨oc,od,dV,kV,doc,pm,an,cdv,ct,osl,rfl,lk,hcd⟩:=F.ex;exact yX lk hcd S len λ A outer s H vs Q E hr hsp=>hbody cdv A outer s H vs Q E hr hsp
end
open PySem.W
structure r9(K:W.Frag)(C:Addr):Prop where
 ga:W.findIn K (.ref C) "__getattribute__"=some (some (.builtin "BaseException.__getattribute__"))
 no:W.findIn K (.ref C) "__getattr__"=some none
 mb:W.mroIn K C (.type "BaseException")=some true
 mo:W.mroIn K C (.type "object")=some true
 cl:W.findIn K (.ref C) "__class__"=some (some (.builtin "object.__class__"))
 sp:W.specialIn K (.builtin "object.__class__") "__get__"=some (some (.builtin "getset_descriptor.__get__"))
 tk:W.takesIn K (.builtin "object.__class__")=some true
 hd:W.hasDictIn K C=true
section
variable {prog:Program}{w:World}{A:Around}{E:Value->Shared->Prop}{s:Shared}{K:PySem.W.Frag}{x C:Addr}{ox:Obj}{od:Option Obj}{name:Str}
theorem ou{M:Model}{nameV:Value}{Q:Unit->Shared->Prop}(c:r9 K C)(X:K.In s.heap)(I:InstAt s.heap x ox C od)(hq:Q () s):wpAny M A (checkBuiltinCall "BaseException.__getattribute__" ⟨[.ref x,nameV],[]⟩) Q E s:=by
 have hk:builtinKind "BaseException.__getattribute__"=some .slot:=by decide +kernel
 have hsplit:splitId "BaseException.__getattribute__"=some ("BaseException", "__getattribute__"):=by decide +kernel
 have ha:=F.args_bexc_ga (.ref x) nameV;have L0:=I.type (M:=M);have L1:=looks_mroIn (M:=M) X c.mb;obtain⟨hh,g,d,t,os⟩:=s;simp only [checkBuiltinCall,hk,hsplit];have LI:Looks M hh (isInstance (.ref x) (.type "BaseException")) true:=L0.andThen L1;refine L7 (LI.at ?_)
 first|exact hq|exact Mf hq|(simp only [Bool.not_true,OP,if_false];exact hq)
def Lv(M:Model)(A:Around)(P:Value->Shared->Prop)(fin:PySem.Fin)(s:Shared):Prop:=match fin with
 | .done (.ret v)=>P v s
 | .again c=>c.quiet=true/\codeAny M A c (λ r s'=>match r with | .ok (.ret v)=>P v s'|_=>False) s
 | _=>False
theorem AE{Q:Option Value->Shared->Prop}(c:r9 K C)(X:K.In s.heap)(I:InstAt s.heap x ox C od)
  (h:∀ A':Around,wpAny (model prog w) A' (Builtin.«object.__getattribute__» ⟨[.ref x,.str name s.toks],[]⟩) (Lv (model prog w) A λ v s'=>wpAny (model prog w) A (handedOut v) (λ v s''=>Q (some v) s'') (λ _ _=>False) s') (λ _ _=>False) { s with toks:=s.toks+1 }) :
  wpAny (model prog w) A (getAttr? (.ref x) name) Q E s:=by
 obtain⟨hh,g,d,t,os⟩:=s;have L0:=I.type (M:=model prog w);have L1:=looks_findIn (M:=model prog w) X c.ga;have L2:=looks_findIn (M:=model prog w) X c.no;unfold getAttr? getAttrBy? getAttrBy;refine wpAny_bind (wpAny_mkText (wpAny_bind (wpAny_attempt (wpAny_holding (wpAny_bind (L0.at (wpAny_bind (L1.at ?_))))))))
 show wpAny _ _ (getAttrByItsOwn _ _ _ _ _ _) _ _ _
 unfold getAttrByItsOwn
 show wpAny _ _ (do let before ←typeLookup (.ref C) "__getattr__";_) _ _ _
 refine wpAny_bind (L2.at (wpAny_bind (wpAny_attempt (wpAny_holding ?_))));unfold callGetattribute;rw [if_neg (by simp)];unfold boundAndCalled;rw [F.attr_ValueError.ga.bind (.ref x)];refine wpAny_bind (wpAny_pure (wpAny_call (codeAny_call_builtin F.attr_ValueError.ga.plain F.entry_bexc_ga (ou c X I ?_))));have fin1:∀ v s',wpAny (model prog w) A (handedOut v) (λ v s''=>Q (some v) s'') (λ _ _=>False) s'->wpAny (model prog w) A (handedOut v) (λ a s'=>wpAny (model prog w) A (pure (some a)) Q E s') (λ e s'=>wpAny (model prog w) A (do if ←isInstance e (.type "AttributeError") then pure none else throw e) Q E s') s':=λ v s' z=>wpAny_mono z (λ _ _ q=>wpAny_pure q) λ _ _ q=>q.elim;refine wpAny_mono (h _) (λ fin s' z=>?_) λ _ _ z=>z.elim
 cases fin with
 | done f=>cases f with
  | ret v=>exact fin1 v s' z
  | _=>exact z.elim
 | again c'=>
  obtain⟨z1,z2⟩:=z;refine⟨z1,NJ z2 λ r s'' q=>?_⟩
  cases r with
  | error e=>exact q.elim
  | ok f=>cases f with
   | ret v=>exact fin1 v s'' q
   | _=>exact q.elim
theorem nk{a g:Value}(hc:(clsIn K C).isSome=true)(ha:findIn K (.ref C) name=some (some a))(hg:specialIn K a "__get__"=some (some g))(ht:takesIn K a=some true):findObj K C od name=some (.bind g a):=by
 obtain⟨cd,hc⟩:=Option.isSome_iff_exists.mp hc;unfold findObj;rw [hc,Option.bind_some,ha,Option.bind_some];simp [hg,ht]
theorem r9.some(c:r9 K C):(clsIn K C).isSome=true:=by
 obtain⟨cd,hc,_⟩:=any_some c.hd;rw [hc];rfl
theorem x8{Q:Option Value->Shared->Prop}(c:r9 K C)(X:K.In s.heap)(I:InstAt s.heap x ox C od)(hq:Q (some (.ref C)) { s with toks:=s.toks+1 }):wpAny (model prog w) A (getAttr? (.ref x) "__class__") Q E s:=by
 have hf:findObj K C od "__class__"=some (.bind (.builtin "getset_descriptor.__get__") (.builtin "object.__class__")):=nk c.some c.cl c.sp c.tk;refine AE c X I λ A'=>?_;have L0:=I.type (M:=model prog w);have L1:=looks_find (M:=model prog w) X I hf;have cg:∀ {A:Around} {R:Result->Shared->Prop},R (.ok (.ret (.ref C))) { s with toks:=s.toks+1 }->codeAny (model prog w) A (.call (.builtin "getset_descriptor.__get__") ⟨[.builtin "object.__class__",.ref x,.ref C],[]⟩) R { s with toks:=s.toks+1 }:=λ h=>class_get (s:={ s with toks:=s.toks+1 }) (ox:=ox) (od:=od) X I c.mo h;obtain⟨hh,gg,d,t,os⟩:=s;refine L7 (Mf (L7 (Mf (L7 (L0.at (L7 (L1.at ?_)))))))
 show wpAny _ _ (do ret (←holding [.builtin "object.__class__"] (call (.builtin "getset_descriptor.__get__") [.builtin "object.__class__",.ref x,.ref C]))) _ _ _
 exact L7 (M6 (NM (cg (Mf (show Lv _ _ _ (.done (.ret (.ref C))) _ from handed_on rfl hq)))))
theorem rJ(c:r9 K C):KitX K (.ref x) (.ref C) (λ h=>InstAt h x ox C od) where
 ty:=λ _ _ _ I=>I.type
 it:=λ _ _ X _=>by
  obtain⟨cdD,hcD,_⟩:=any_some c.hd;unfold clsIn at hcD;split at hcD
  ·rename_i c' d' cd' sl' ho;intro A' Q' E' s' k q;unfold isType loadHead;exact wpAny_bind (wpAny_loadPart (k _ _ (X _ _ ho)) (wpAny_pure q))
  ·cases hcD
 ne:=λ h tp dd its n sl X htp=>by
  obtain⟨cdD,hcD,_⟩:=any_some c.hd;refine Bool.eq_false_iff.mpr λ q=>?_;have e:C=tp:=Value.ref.inj (beq_iff_eq.mp q);subst e;unfold clsIn at hcD;split at hcD
  ·rename_i c' d' cd' sl' ho;have z:=(X _ _ ho).symm.trans htp;cases z
  ·cases hcD
 ca:=λ X I k=>x8 c X I k
end
def iK(oe:Obj):HO:=.frz oe (.ext λ _=>True)
structure nF(X:Cx)(pins:List (Addr × Obj))(e:Addr):Prop where
 s0:X.s₀.heap.get? e=none
 loc:e ≠ X.env.locals
 cel:∀ x c,X.env.cells.lookup x=some c->c ≠ e
 fs:e ∉ X.fs
 pin:∀ p∈X.pn++pins,p.1 ≠ e
section
variable {X:Cx}
theorem nF.of{pins:List (Addr × Obj)}{σ:St}{H:Hp}{s:Shared}{e:Addr}(I:Inv X pins σ H s)(hx:X.ex=[])(h:s.heap.get? e=none):nF X pins e where
 s0:=by
  cases q:X.s₀.heap.get? e with
  | none=>rfl
  | some o=>
   obtain⟨o',z⟩:=I.base.there e o q (by rw [hx];simp);rw [h] at z;cases z
 loc:=λ z=>by
  obtain⟨m,⟨o,_,_,q,_⟩,_⟩:=I.loc;rw [←z,h] at q;cases q
 cel:=λ x c q z=>by
  obtain⟨v,o,r,_⟩:=I.cell x c q;rw [z,h] at r;cases r
 fs:=λ z=>by
  obtain⟨_,o,q,_⟩:=I.funs.mem z;rw [h] at q;cases q
 pin:=λ p hp z=>by
  have q:=(I.pin p hp).1;rw [z,h] at q;cases q
theorem Inv.track{pins:List (Addr × Obj)}{σ:St}{H:Hp}{s:Shared}{e:Addr}{oe:Obj}(I:Inv X pins σ H s)(N:nF X pins e)(he:s.heap.get? e=some oe)(hn:H e=none):Inv X pins σ (upd H e (iK oe)) s:=by
 have ne:∀ {b:Addr} {o:HO},H b=some o->b ≠ e:=λ q z=>by rw [z,hn] at q;cases q
 refine⟨I.ok,I.os,I.bare,⟨I.base.keep,I.base.slot,λ b o q n hx=>?_,I.base.there,λ b xs q=>?_,λ b o u q=>?_,λ b ps q=>?_⟩,I.loc,I.cell,?_,λ x c q=>?_,λ p hp=>?_,λ b o q=>?_,I.len⟩
 ·rw [ae (λ z=>by rw [z,N.s0] at q;cases q)];exact I.base.free b o q n hx
 ·have z:=I.base.tups b xs q;rw [ae (ne z)];exact z
 ·have z:=I.base.frzs b o u q;rw [ae (ne z)];exact z
 ·obtain⟨m,z⟩:=I.base.tbls b ps q;exact⟨m,by rw [ae (ne z)];exact z⟩
 ·rw [ae (NA N.loc)];exact I.free
 ·rw [ae (N.cel x c q)];exact I.freeC x c q
 ·obtain⟨a,b,c,d,f⟩:=I.pin p hp;exact⟨a,by rw [ae (N.pin p hp)];exact b,c,d,f⟩
 ·by_cases hb:b=e
  ·subst hb;rw [ag] at q;cases q;exact⟨he,trivial,⟨oe,he⟩,λ _ _ _ _=>trivial⟩
  ·rw [ae hb] at q;exact(I.hok b o q).stay (λ _ _ _ r=>r) (λ c r=>by rw [ae (ne r)];exact r) (λ c y r=>by rw [ae (ne r)];exact r) λ c xs r=>by rw [ae (ne r)];exact r
def PHs(X:Cx)(hs:List ExceptHandler)(th:Value->Option Addr->TS):Prop:=
 ∀ (pins:List (Addr × Obj)) (s:Shared) (σ:St) (H:Hp) (D:gF) (e T:Addr) (cls:Value) (d:Option Addr),Inv X pins σ H s->nF X pins e->H e=none->nG s.heap e cls d T->th cls d D σ H->wpAny (model X.prog X.w) X.A (handleBy (.ref e) X.env hs) (SP X pins D) X.xe s
theorem Ey{M:Model}{A:Around}{E:Value->Shared->Prop}{s:Shared}{e T:Addr}{cls:Value}{d:Option Addr}{Q:Unit->Shared->Prop}(x:nG s.heap e cls d T)(hQ:∀ h',(∀ b o,s.heap.get? b=some o->h'.get? b=some o)->Q () { s with heap:=h' }) :
  wpAny M A (setFlight (.ref e) none) Q E s:=by
 obtain⟨oe,vs,oT,ts,he,rfl,rfl,hd,h1,ne,hT,hdT,h3,h2c⟩:=x;unfold setFlight;refine wpAny_bind (wpAny_field he hd h1 ?_);rw [if_pos (show (Value.ref T != Value.none)=true from by simp)];refine wpAny_setField hT hdT (Array.getElem?_eq_some_iff.mp h3).1 (hQ _ λ b o q=>?_)
 by_cases hb:b=T
 ·subst hb;rw [hT] at q;cases q
  have same:Obj.mapFields (·.setIfInBounds 3 ((none:Option Addr).elim Value.none λ f=>rawInt f)) oT=oT:=by
   obtain⟨c,d,dat,sl⟩:=oT;cases hdT
   have e3:ts.setIfInBounds 3 ((none:Option Addr).elim Value.none λ f=>rawInt f)=ts:=by
    apply Array.ext_getElem?;intro i
    by_cases hi:i=3
    ·subst hi;obtain⟨hlt,hv⟩:=MZ.mp h3;simp [Array.getElem?_setIfInBounds,hlt,hv]
    ·rw [OU (NA hi)]
   show (⟨c,d,.fields (ts.setIfInBounds 3 ((none:Option Addr).elim Value.none λ f=>rawInt f)),sl⟩:Obj)=_
   rw [e3]
  have:=MV (Obj.mapFields (·.setIfInBounds 3 ((none:Option Addr).elim Value.none λ f=>rawInt f))) hT (NR (Ow hdT _));rw [same] at this;exact this
 ·rw [MO _ _ (NA hb)];exact q
def JI:Value->Option Addr->TS:=λ _ _ _ _ _=>False
theorem CD:PHs X [] JI:=λ _ _ _ _ _ _ _ _ _ _ _ _ _ h=>h.elim
theorem SP.unmark{pins:List (Addr × Obj)}{D:gF}{f:Flow}{s2:Shared}{e:Addr}(ok:X.Ok)(q:SP (X.mark e) pins D f s2):SP X pins D f s2:=by
 cases f with
 | next=>obtain⟨σ',H',J,q⟩:=q;exact⟨σ',H',J.unmark ok,q⟩
 | brk=>obtain⟨σ',H',J,q⟩:=q;exact⟨σ',H',J.unmark ok,q⟩
 | cont=>obtain⟨σ',H',J,q⟩:=q;exact⟨σ',H',J.unmark ok,q⟩
 | ret u=>obtain⟨v,σ',H',J,r,q⟩:=q;exact⟨v,σ',H',J.unmark ok,r,q⟩
theorem Ig{M:Model}{h:Heap}{e T:Addr}{cls:Value}{d:Option Addr}(ex:nG h e cls d T):W.Looks M h (typeOf (.ref e)) cls:=by
 obtain⟨oe,vs,oT,ts,he,rfl,_⟩:=ex;exact(W.Looks.ld he).andThen .now
def JB(i:Nat):St->Hp->(St->Hp->Prop)->Prop:=λ σ H Q=>Q (σ.set i none) H
def BM(i:Nat)(nx:St->Hp->Prop):St->Hp->Prop:=λ σ H=>JB i σ H nx
def gF.del(i:Nat)(D:gF):gF:=⟨BM i D.nx,D.rt,BM i D.bk,BM i D.ct⟩
theorem l6{M:Model}{A:Around}{E:Value->Shared->Prop}{pins:List (Addr × Obj)}{σ:St}{H:Hp}{s:Shared}{i:Nat}{x:Str}{pos:Pos}{Q:Unit->Shared->Prop}(I:Inv X pins σ H s)(hi:X.N[i]? = some x)(hk:X.env.scope.names.lookup x=some .local)(hN:X.N.Nodup)
  (h:∀ s',Inv X pins (σ.set i none) H s'->Q () s'):wpAny M A (do bindName X.env x .none;unbindBehindTheSuite X.env x pos) Q E s:=by
 obtain⟨m,hn,hl⟩:=id I.loc;have hcls:(X.env.scope.kind == .class || (X.env.scope.kind == .module && X.env.locals != X.env.globals))=false:=by rw [I.ok.kind];rfl
 have cne:=I.cne;refine PySem.wpAny_nameGoes_keeps hk hn hcls λ h' v hn' hs=>?_;obtain⟨oL,_,_,hoL,_⟩:=id hn;refine h _ ⟨I.ok,I.os,I.bare,⟨λ b o e n hb hx=>?_,λ b o e n hb hx=>?_,I.base.free,λ b o e hx=>?_,I.base.tups,I.base.frzs,I.base.tbls⟩,⟨_,hn',λ j y v' e1 e2 e3=>?_⟩,λ y c e=>?_,I.free,I.freeC,λ p hp=>?_,λ b ob e=>?_,by simpa using I.len⟩
 ·exact(hs.2 b (Ms (Mm (Mc e) I.ok.above))).trans (I.base.keep b o e n hb hx)
 ·obtain⟨sl,e1⟩:=I.base.slot b o e n hb hx;exact⟨sl,(hs.2 b (Ms (Mm (Mc e) I.ok.above))).trans e1⟩
 ·obtain⟨o',e1⟩:=I.base.there b o e hx;exact⟨o',(hs.2 b (Ms (Mm (Mc e) I.ok.above))).trans e1⟩
 ·have hj:j ≠ i:=by
   rintro rfl
   by_cases hlt:j < σ.length
   ·rw [OA hlt] at e2;cases e2
   ·rw [Ob (by simpa using Ox hlt)] at e2;cases e2
  rw [OH (NA hj)] at e2;obtain⟨u',r',q⟩:=hl j y v' e1 e2 e3;refine⟨u',r',?_⟩
  rcases q with ⟨k,e⟩|⟨k,c,e,z⟩
  ·refine .inl ⟨k,?_⟩;have:y ≠ x:=λ e=>hj (mH hN e1 (e ▸ hi));simp [this,e]
  ·exact .inr ⟨k,c,e,z.sameBut hs (cne y c e)⟩
 ·obtain⟨w',z⟩:=I.cell y c e;exact⟨w',z.sameBut hs (cne y c e)⟩
 ·obtain⟨e,n,ne,nf,d⟩:=I.pin p hp;exact⟨(hs.2 p.1 ne).trans e,n,ne,nf,d⟩
 ·refine(I.hok b ob e).stay (λ c w' hc q=>(hs.2 c ?_).trans q) (λ _ q=>q) (λ _ _ q=>q) λ _ _ q=>q;rintro rfl
  rcases hc with rfl|hc
  ·rw [I.free] at e;cases e
  ·rw [I.free] at hc;cases hc
def KP(tb:(St->XK)->TS)(th:Value->Option Addr->TS):TS:=λ D σ H=>tb (λ σ' cls d H'=>th cls d D σ' H') D σ H
abbrev Cx.tried(X:Cx)(E:Value->Shared->Prop)(pn:List (Addr × Obj)):Cx:={ X with xe:=E,pn:=pn }
theorem FU{body:List Stmt}{h₀:ExceptHandler}{hs:List ExceptHandler}{pos:Pos}{tb:(St->XK)->TS}{th:Value->Option Addr->TS}(hstk:X.stack=X.env::X.outer/\X.env.frame=some X.env.locals/\X.ex=[])
  (hb:∀ (EX:St->XK) (E:Value->Shared->Prop) (pn:List (Addr × Obj)),(∀ σ,BK (CX1 X.prog X.w) (X.tried E pn) (EX σ) σ)->PSs (X.tried E pn) body (tb EX)) (hh:PHs X (h₀::hs) th) :
  PS X (.Try body (h₀::hs) [] [] pos) (KP tb th):=by
 intro pins s σ H D I h;refine PySem.wpAny_Try_except ?_;have okT:∀ E pn,(X.tried E pn).Ok:=λ E pn=>⟨I.ok.mod,I.ok.kind,I.ok.glob,I.ok.blt,I.ok.above,I.ok.inj,I.ok.has,I.ok.cab,I.ok.hd,I.ok.frames,I.ok.stk,I.ok.exf,I.ok.bs,I.ok.bsz,I.ok.noex,I.ok.exfs,I.ok.funs,I.ok.frf⟩
 have back:∀ {E:Value->Shared->Prop} {pins':List (Addr × Obj)} {σ':St} {H':Hp} {s':Shared},Inv (X.tried E (X.pn++pins)) pins' σ' H' s'->Inv X pins σ' H' s':=λ {E pins' σ' H' s'} J=>
  ⟨I.ok,J.os,J.bare,J.base,J.loc,J.cell,J.free,J.freeC,λ p hp=>J.pin p (MJ _ hp),J.hok,J.len⟩
 have I0:∀ E,Inv (X.tried E (X.pn++pins)) [] σ H s:=λ E=>⟨okT E _,I.os,I.bare,I.base,I.loc,I.cell,I.free,I.freeC,λ p hp=>I.pin p (by simpa using hp),I.hok,I.len⟩;refine thn (hb (λ σ' cls d H'=>th cls d D σ' H') _ (X.pn++pins) ?_ [] s σ H D (I0 _) h) λ f s1 q=>?_
 ·intro σ1 pins1 H1 s1 ev s2 I1 hc;obtain⟨e,T,cls,dd,H',rfl,os,bare,un1,hok,ne,nT,He,HT,ex,hxd,hE⟩:=hc;have I2:=I1.call' (ch:=[]) os un1 hok bare (λ b z=>absurd z (by simp))
  have nf:∀ b,s1.heap.get? b=none->b ∉ frs (X.env::X.outer):=λ b hb z=>by
   have st:=I1.stack;have st':s1.heap.FunFrames X.base (X.env::X.outer):=by rw [←hstk.1];exact st
   obtain⟨_,o,q,_⟩:=st'.mem z;rw [hb] at q;cases q
  have nb:X.base.get? T=none:=by
   cases q:X.base.get? T with
   | none=>rfl
   | some o=>
    have:=I1.bk T o q;rw [nT] at this;cases this
  have fl:s2.heap.FunFrames X.base (X.env::X.outer):=by rw [←hstk.1];exact I2.stack
  have fr:X.A.frames=some (X.env::X.outer):=by rw [←hstk.1];exact I.ok.frames
  refine oa (base:=X.base) (outer:=X.outer) fr fl hstk.2.1 ex (nf e ne) (nf T nT) nb λ g T' ng nT' ex'=>?_;have fs:∀ b∈frs (X.env::X.outer),b∈frs X.stack:=λ b hb=>by rw [hstk.1];exact hb
  have I3:=I1.call' (s':={ s2 with heap:=g }) (ch:=[]) os (un1.noted ng ne (λ b z=>by rw [z];exact nT) λ b hb=>.inl (fs b hb)) (hok.noted ng He (λ b z=>by rw [z];exact HT) λ b hb=>I2.stkFree b (fs b hb)) bare (λ b z=>absurd z (by simp));exact hh pins _ σ1 H' D e T' cls dd (back I3) (nF.of (back I1) hstk.2.2 ne) He ex' hE
 ·cases f with
  | next=>obtain⟨σ',H',J,q⟩:=q;exact Ot ⟨σ',H',back J,q⟩
  | brk=>obtain⟨σ',H',J,q⟩:=q;exact⟨σ',H',back J,q⟩
  | cont=>obtain⟨σ',H',J,q⟩:=q;exact⟨σ',H',back J,q⟩
  | ret u=>obtain⟨v,σ',H',J,r,q⟩:=q;exact⟨v,σ',H',back J,r,q⟩
def kXd:HO->Prop:=λ o=>match o with
 | .xd _=>True
 | _=>False
def uH(H:Hp):Option Addr->Prop
 | none=>True
 | some dx=>∃ o,H dx=some o/\kXd o
theorem yk:bO X (.builtin "isinstance") (λ xs H Q=>∃ e oe C D b,xs=[.ref e,D]/\(∃ u,H e=some (.frz oe u))/\oe.cls=.ref C/\uH H oe.dict/\(∃ vs,oe.data=.fields vs)/\r9 X.K C/\(∃ u,bc D u/\W.kitOne X.K (.ref C) u=some b)/\Q (.bl b) H):=by
 intro pins s σ H xs us Q I r h;obtain⟨e,oe,C,D,b,rfl,⟨uu,hH⟩,hc,hd,⟨vs,hv⟩,ec,⟨u,ru,hk⟩,q⟩:=h;obtain⟨u1,u2,rfl,r1,r2⟩:=yJ r;cases (show u1=Value.ref e from r1)
 have hu:u2=u:=by
  cases D with
  | ref a=>exact(show u2=Value.ref a from r2).trans (show u=Value.ref a from ru).symm
  | ty n=>exact(show u2=Value.type n from r2).trans (show u=Value.type n from ru).symm
  | non=>exact(show u2=Value.none from r2).trans (show u=Value.none from ru).symm
  | bl b'=>exact(show u2=Value.bool b' from r2).trans (show u=Value.bool b' from ru).symm
  | int i=>obtain⟨t,rfl⟩:=ru;simp [W.kitOne,W.kitCls] at hk
  | str i=>obtain⟨t,rfl⟩:=ru;simp [W.kitOne,W.kitCls] at hk
  | byt i=>obtain⟨t,rfl⟩:=ru;simp [W.kitOne,W.kitCls] at hk
  | flt i=>obtain⟨t,rfl⟩:=ru;simp [W.kitOne,W.kitCls] at hk
 subst hu;obtain⟨he,_⟩:=(show aV X.prog X.w H s.heap e (.frz oe uu) from I.hok e _ hH);have hno:W.notCls oe=true:=by unfold W.notCls;rw [hv]
 cases q0:oe.dict with
 | none=>
  have J:W.InstAt s.heap e oe C none:=⟨he,hc,hno,by rw [q0];trivial⟩;exact NQ (rJ ec) I.kIn J hk (λ z=>nomatch z) λ tk=>⟨.bl b,H,I.tok _,rfl,q⟩
 | some dx=>
  rw [q0] at hd;obtain⟨o,ho,hx⟩:=hd
  cases o with
  | xd fs=>
   obtain⟨mA,hn,_⟩:=I.hok dx _ ho;obtain⟨oD,hoD,_⟩:=jx hn;have J:W.InstAt s.heap e oe C (some oD):=⟨he,hc,hno,by rw [q0];exact hoD⟩;exact NQ (rJ ec) I.kIn J hk (λ z=>nomatch z) λ tk=>⟨.bl b,H,I.tok _,rfl,q⟩
  | _=>exact hx.elim
end
def By(K:Frag)(C fI:Addr)(bmB:List Value)(newId:String):Bool:=uX K C (some (.ref fI)) bmB newId
section
variable {prog:Program}{w:World}{A:Around}{R:Result->Shared->Prop}{h:Heap}{g:Array GenState}{d:Drawn}{t:Nat}{os:OsState}{K:Frag}
variable {nm q:Str}{C N fI:Addr}{bs bm bmB:List Value}{hdct:Bool}{sn:List Str}{sub:List Value}{ab:Bool}{col:Option Bool}{dd:Option Addr}{k0 k1 k2 k3 k5:Option Value}{B Bn newId nid initId inN:String}{bmN:List Value}
abbrev kC(C:Addr)(cy:List Value)(h:Heap):Heap:=(h.push { cls:=.type "tuple",data:=.seq cy.toArray }).push { cls:=.ref C,data:=.fields #[.ref h.objs.size,.none,.none,.none,.bool false,.none] }
theorem Ez(Fn:ExcBaseFacts Bn newId inN bmN)(hBn:bmB.contains (.type Bn)=true)(F:ExcBaseFacts B nid initId bmB)(T:OwnTail h bmB bm){mN:Str->Option Value}{cy:List Value}
  (hC:h.get? C=some (excClassObj nm q C N bs bm hdct sn sub ab col dd k0 k1 k2 k3 k5 newId)) (hn:h.Ns N mN) (hni:mN "__init__"=some (.ref fI)) (X:K.In h) (hf:typeIn K (.ref fI)=some (.type "function")) (hrest:cy.length<=sizeLine)
  (hq:codeAny (model prog w) (A.under (.builtin "type.__call__" ⟨.ref C::cy,[]⟩)) (.call (.ref fI) ⟨.ref (h.objs.size+1)::cy,[]⟩) (InitBack (h.objs.size+1) R) ⟨kC C cy h,g,d,t,os⟩) :
  codeAny (model prog w) A (.call (.ref C) ⟨cy,[]⟩) R ⟨h,g,d,t,os⟩:=by
 have f1:=tc_lookup;have f2:=tc_bind (.ref C);have hT:(⟨h,g,d,t,os⟩:Shared).TypeIs (.ref C) "type":=⟨_,hC,rfl⟩;refine codeAny_of_tree ?_
 show wpAny _ _ (callAny (.ref C) _) _ _ _
 repeat (any_goals (first|assumption|with_reducible refine NU hC ?_|wp_step))
 refine⟨rfl,?_⟩;refine codeAny_call_builtin_at (Code.quiet_builtin _ (by decide +kernel)) entry_typeCall (wpAny_check_type_call_sub hC ?_)
 repeat (first|with_reducible refine NU hC ?_|with_reducible refine wpAny_madeBy_exc hC ?_|wp_step)
 refine codeAny_call_builtin_code (Code.quiet_builtin _ Fn.quiet) (wpAny_check_new_subU Fn hBn T hC (codeAny_exc_new_subU Fn hBn F T hC ?_ hrest))
 show wpAny _ _ _ _ _ _
 have kp:∀ b o,h.get? b=some o->(kC C cy h).get? b=some o:=λ b o e=>Heap.get?_push_of_some _ (Heap.get?_push_of_some _ e);have hC1:=kp _ _ hC;have hn1:(kC C cy h).Ns N mN:=let ⟨o,es,ep,e,r⟩:=hn;⟨o,es,ep,kp _ _ e,r⟩;have hg:(kC C cy h).get? (h.objs.size+1)=some { cls:=.ref C,data:=.fields #[.ref h.objs.size,.none,.none,.none,.bool false,.none] }:=by unfold kC;heap_get
 have hcC:(Value.ref C::bm).contains (.ref C)=true:=by simp
 have T1:=T.keeps (h':=kC C cy h) kp;have X1:K.In (kC C cy h):=λ b o e=>kp b o (X b o e);unfold isInstance
 repeat (first|with_reducible refine NU hg ?_|wp_step)
 show wpAny _ _ (isSubtype (.ref C) (.ref C)) _ _ ⟨kC C cy h,g,d,t,os⟩
 refine wpAny_isSubtype_exc hC1 ?_;rw [hcC]
 repeat (first|with_reducible refine NU hg ?_|wp_step)
 show wpAny _ _ (typeLookup (.ref C) _) _ _ _
 refine wpAny_typeLookup_tail hC1 hn1 T1 F.mroIs F.init.lookup ?_;rw [hni];refine M6 (L7 ((bind_fn X1 _ hf).at ?_));refine L7 (NM (NJ hq λ r s' z=>?_))
 cases r with
 | error e=>exact z
 | ok f=>
  cases f with
  | ret v=>obtain⟨rfl,y⟩:=z;exact Mf (Mf y)
  | next=>exact z.elim
  | brk=>exact z.elim
  | cont=>exact z.elim
end
def mM:List Value->List Value
 | .ref _::r=>mM r
 | l=>l
theorem jD(self:Value):∀ l:List Value,refuseLoop self "__setattr__" l=refuseLoop self "__setattr__" (mM l)
 | []=>rfl
 | v::r=>by
  cases v with
  | ref c=>rw [refuseLoop_ref];exact jD self r
  | _=>rfl
def vJ(l:List Value):Bool:=mM l == [.type "ValueError",.type "Exception",.type "BaseException",.type "object"]
theorem sE(self:Value){l:List Value}(e:vJ l=true):refuseLoop self "__setattr__" l=pure ():=by
 rw [jD,NY.mp e];exact PySem.F.store_ValueError.passes self
def p8(K:Frag)(C:Addr):Bool:=(clsIn K C).any λ cd=>vJ cd.mro && cd.mro.contains (.type "object")
structure vg(K:Frag)(C:Addr):Prop where
 ov:p8 K C=true
 sa:findIn K (.ref C) "__setattr__"=some (some (.builtin "object.__setattr__"))
 hd:hasDictIn K C=true
section
variable {prog:Program}{w:World}{A:Around}{E:Value->Shared->Prop}{K:Frag}{x C:Addr}{s:Shared}{name:Str}{v:Value}
theorem zH{ox:Obj}{od:Option Obj}{tk:Tok}{R:Result->Shared->Prop}(X:K.In s.heap)(I:InstAt s.heap x ox C od)(hp:p8 K C=true)(ht:takerIn K C name=some none)
  (h:∀ b,wpAny (model prog w) A.in1 (Builtin.ObjectAttr.storeInOwnDict (.ref x) (.ref C) (.str name tk) name v b) (λ fin s'=>match fin with | .done f=>R (.ok f) s' | .again c'=>c'.quiet=true/\codeAny (model prog w) A c' R s') (λ e s'=>R (.error e) s') s) :
  codeAny (model prog w) A (.call (.builtin "object.__setattr__") ⟨[.ref x,.str name tk,v],[]⟩) R s:=by
 have sf:=PySem.F.store_object;obtain⟨dat,hcl,hov⟩:=any_some hp;rw [Od] at hov
 have emp:dat.mro.isEmpty=false:=by cases q:dat.mro with|nil=>rw [q] at hov;cases hov.2|cons _ _=>rfl
 have Fw:Looks (model prog w) s.heap (isInstance (.ref x) (.type "object")) true:=I.type.andThen (looks_mroIn X (by unfold mroIn;rw [hcl,Option.bind_some,if_neg (by rw [emp];decide),hov.2]));refine codeAny_call_builtin sf.slot.plain sf.entry (@check_slot (model prog w) _ _ s "object.__setattr__" "object" "__setattr__" (.ref x) [.str name tk,v] [] _ sf.kind sf.split Fw (sf.args (.ref x) (.str name tk) v) ?_);obtain⟨on,hon,hr⟩:=Option.bind_eq_some_iff.mp ht;have lm:Looks (model prog w) s.heap (mroOf (.ref C)) dat.mro:=(looks_clsIn X hcl).andThen .now
 have lt:Looks (model prog w) s.heap (Builtin.ObjectAttr.storeTaker? on) none:=by
  cases on with
  | none=>exact .now
  | some a=>
   obtain⟨b,hb,hz⟩:=Mg.mp hr;refine(looks_takesIn X hb).andThen ?_;cases b
   ·exact .now
   ·cases hz
 rw [osa_eq,refuse_eq];refine L7 (L7 (I.type.here (L7 (lm.here (by rw [sE _ hov.1];refine Mf (L7 (I.type.here (L7 ((OQ X hon).here (L7 (lt.here (h _))))))))))))
theorem Cv{vs:Array Value}{sl:Array (Option Value)}{Q:Unit->Shared->Prop}(c:vg K C)(X:K.In s.heap)(hx:s.heap.get? x=some ⟨.ref C,none,.fields vs,sl⟩)(ht:takerIn K C name=some none)
  (h:∀ h' tk,h'.get? x=some ⟨.ref C,some s.heap.objs.size,.fields vs,sl⟩->h'.Ns1 s.heap.objs.size (λ y=>if y=name then some v else none)->(∀ b o,b ≠ x->s.heap.get? b=some o->h'.get? b=some o)->Q () { s with heap:=h',toks:=tk }) :
  wpAny (model prog w) A (setAttr (.ref x) name v) Q E s:=by
 have I:InstAt s.heap x ⟨.ref C,none,.fields vs,sl⟩ C none:=⟨hx,rfl,rfl,trivial⟩;refine set_plain X I c.sa (zH (s:={ s with toks:=s.toks+1 }) X I c.ov ht λ b=>?_);obtain⟨cd,hc,hd'⟩:=any_some c.hd;have hxs:x ≠ s.heap.objs.size:=Ms (Mc hx);have hx1:(s.heap.push { cls:=.type "dict",data:=.dict #[] }).get? x=some ⟨.ref C,none,.fields vs,sl⟩:=Ma _ hx;refine L7 (Mf (L7 (L7 (wpAny_loadPart hx ?_))))
 show wpAny _ _ (do if !(←classData C).hasDict then pure none else _) _ _ _
 refine L7 (Looks.here (s:={ s with toks:=s.toks+1 }) (looks_clsIn X hc) ?_);rw [hd',Mw (by decide)]
 show wpAny _ _ (do let d ←alloc { cls:=.type "dict",data:=.dict #[] };update x λ o=>{ o with dict:=some d };dictMade (.ref C) x d) _ _ _
 refine L7 (wpAny_alloc (L7 (wpAny_update hx1 (Mf (a:=some s.heap.objs.size) ?_))));generalize hg:(s.heap.push { cls:=.type "dict",data:=.dict #[] }).update x (λ o=>{ o with dict:=some s.heap.objs.size })=g0;have gx:g0.get? x=some ⟨.ref C,some s.heap.objs.size,.fields vs,sl⟩:=by rw [←hg];exact MV _ hx1 rfl
 have gd:g0.get? s.heap.objs.size=some { cls:=.type "dict",data:=.dict #[] }:=by rw [←hg];exact(Nr _ _ _ _ hxs.symm).trans (Heap.get?_push_at rfl rfl)
 have gk:∀ b o,b ≠ x->s.heap.get? b=some o->g0.get? b=some o:=λ b o hb e=>by rw [←hg];exact(Nr _ _ _ _ hb).trans (Ma _ e)
 have gn:g0.Ns s.heap.objs.size (λ _=>none):=⟨_,#[],_,gd,rfl,λ e he=>absurd he (by simp),λ _=>rfl⟩
 show wpAny _ _ (Builtin.ObjectAttr.storeInDict s.heap.objs.size (.str name s.toks) name v) _ _ _
 unfold Builtin.ObjectAttr.storeInDict Builtin.ObjectAttr.newKeyGuard;refine wpAny_bind (wpAny_pure (wpAny_bind (wpAny_nsSet1 (Heap.Ns1.of_empty gn) λ h2 n2 s2=>?_)));obtain⟨oD,eD,pD,q1,q2,q3⟩:=n2.count (Within.cons name v Within.nil);refine wpAny_bind (wpAny_lookBehind q1 (by rw [q2];exact pastItsLine_dict (Nat.le_trans q3 (by rw [length_cons,List.length_nil,sizeLine_eq];omega))) ?_);exact wpAny_pure (h h2 _ ((s2.2 x hxs).trans gx) n2 λ b o hb e=>(s2.2 b (Nat.ne_of_lt (Heap.lt_size e))).trans (gk b o hb e))
end
section
variable {prog:Program}{w:World}{A:Around}{E:Value->Shared->Prop}{s:Shared}{K:PySem.W.Frag}{x C dx:Addr}{ox:Obj}{od:Option Obj}{name:Str}{mA:Str->Option Value}{u:Value}
theorem EA{expr:Bool}{Q:Value->Shared->Prop}(c:r9 K C)(X:K.In s.heap)(hx:s.heap.get? x=some ox)(hcl:ox.cls=.ref C)(hno:notCls ox=true)(hd:ox.dict=some dx)(hn:s.heap.Ns1 dx mA)(ha:bh K C name)(hv:mA name=some u)(hh:handedIn u=true)
  (h:Q u { s with toks:=s.toks+1 }):wpAny (model prog w) A (getAttr (.ref x) name expr) Q E s:=by
 obtain⟨oD,ho,hl⟩:=jx hn;have I:InstAt s.heap x ox C (some oD):=⟨hx,hcl,hno,by rw [hd];exact ho⟩;have hf:findObj K C (some oD) name=some (.value u):=findObj_own c.hd ha rfl (by rw [hl,hv]);have L0:=I.type (M:=model prog w);have L1:=looks_findIn (M:=model prog w) X c.ga;have L2:=looks_findIn (M:=model prog w) X c.no;have L3:=looks_find (M:=model prog w) X I hf;have ck:=λ {M:Model} {A:Around} {E:Value->Shared->Prop} {Q:Unit->Shared->Prop} (q:Q () { s with toks:=s.toks+1 })=>ou (M:=M) (A:=A) (E:=E) (nameV:=.str name s.toks) (s:={ s with toks:=s.toks+1 }) c X I q;obtain⟨hp,g,d,t,os⟩:=s;unfold getAttr getAttrBy;refine wpAny_bind (wpAny_mkText (wpAny_holding (wpAny_bind (L0.at (wpAny_bind (L1.at ?_))))))
 show wpAny _ _ (getAttrByItsOwn _ _ _ _ _ _) _ _ _
 unfold getAttrByItsOwn
 show wpAny _ _ (do let before ←typeLookup (.ref C) "__getattr__";_) _ _ _
 refine wpAny_bind (L2.at (wpAny_bind (wpAny_attempt (wpAny_holding ?_))));unfold callGetattribute;rw [show (expr && onTheHeap (Value.builtin "BaseException.__getattribute__"))=false from Bool.and_false _,if_neg (by decide)];unfold boundAndCalled;rw [F.attr_ValueError.ga.bind (.ref x)];refine wpAny_bind (wpAny_pure (wpAny_call (codeAny_call_builtin F.attr_ValueError.ga.plain F.entry_bexc_ga (ck ?_))));refine wpAny_bind (wpAny_pure (wpAny_bind (wpAny_pure (wpAny_bind (L0.at (wpAny_bind (L3.at (wpAny_pure ?_))))))))
 show wpAny _ _ (handedOut u) _ _ _
 rw [handedOut_of hh];exact Mf h
end
section
variable {prog:Program}{w:World}{A:Around}{E:Value->Shared->Prop}{h:Heap}{g:Array GenState}{d:Drawn}{t:Nat}{os:OsState}{e a0:Addr}{dct:Option Addr}
variable {nm q:Str}{C N:Addr}{bs bm bmB:List Value}{hdct:Bool}{sn:List Str}{sub:List Value}{ab:Bool}{col:Option Bool}{dd:Option Addr}{k0 k1 k2 k3 k5:Option Value}{B newId nid initId:String}
theorem xZ(F:ExcBaseFacts B nid initId bmB)(T:OwnTail h bmB bm){cy:List Value}{Q:Value->Shared->Prop}(hC:h.get? C=some (excClassObj nm q C N bs bm hdct sn sub ab col dd k0 k1 k2 k3 k5 newId))
  (he:h.get? e=some ⟨.ref C,dct,.fields #[.ref a0,.none,.none,.none,.bool false,.none],#[]⟩) (hrest:cy.length<=sizeLine)
  (hq:∀ h' a1,h'.get? e=some ⟨.ref C,dct,.fields #[.ref a1,.none,.none,.none,.bool false,.none],#[]⟩->(∀ b o,b ≠ e->h.get? b=some o->h'.get? b=some o)->Q .none ⟨h',g,d,t,os⟩) :
  wpAny (model prog w) A (call (.builtin initId) (.ref e::cy)) Q E ⟨h,g,d,t,os⟩:=by
 refine NM (NC F.init.plain F.initEntry (wpAny_check_init_subU F T hC he rfl ?_))
 wp_walk
 refine hq _ h.objs.size ?_ λ b o hb z=>?_
 ·rw [MV _ (Ma _ he) rfl];rfl
 ·rw [MO _ _ (NA hb)];exact Ma _ z
end
theorem JP{K:Frag}{h:Heap}{N:Addr}{mg:Str->Option Value}{n:Str}{v:Value}(X:K.In h)(G:h.Ns N mg)(e:nsIn K N n=some (some v)):mg n=some v:=by
 obtain⟨ob,ents,prev,hob,hdat,_,hfind⟩:=G;unfold nsIn at e;split at e
 ·rename_i c0 d0 es0 n0 sl0 look;have z:=X _ _ look;rw [hob] at z;cases z;cases hdat;split at e
  ·rename_i ent hent;cases e;rw [←hfind];unfold nsFind findBy;rw [←Array.find?_toList,hent];rfl
  ·split at e<;>cases e
 ·cases e
structure EY(K:W.Frag)(C fI:Addr):Prop where
 ex:By K C fI [.type "ValueError",.type "Exception",.type "BaseException",.type "object"] "ValueError.__new__"=true
 fn:typeIn K (.ref fI)=some (.type "function")
 st:vg K C
theorem EY.op{K:W.Frag}{C fI:Addr}{h:Heap}(O:EY K C fI)(X:K.In h):∃ c:JD,h.get? C=some (excClassObj c.nm c.q C c.N c.bs c.bm c.hdct c.sn c.sub c.ab c.col c.dd c.k0 c.k1 c.k2 c.k3 c.k5 "ValueError.__new__") /\
  OwnTail h [.type "ValueError",.type "Exception",.type "BaseException",.type "object"] c.bm/\h.Ns c.N (h.nsMap c.N)/\h.nsMap c.N "__init__"=some (.ref fI):=by
 obtain⟨c,look0,tok,nok,noi⟩:=BF O.ex;have nsb:h.Ns c.N (h.nsMap c.N):=.of_isNs (W.isNs_of_in X nok);exact⟨c,X _ _ look0,W.tail_of_in X tok,nsb,JP X nsb noi⟩
def exO(e C:Addr)(d:Option Addr):Heap->Prop:=λ h=>∃ t,h.get? e=some ⟨.ref C,d,.fields #[.ref t,.none,.none,.none,.bool false,.none],#[]⟩
def exH(e C:Addr)(d:Option Addr):HO:=.ext (exO e C d)
theorem vd{P:Program}{w:World}{H:Hp}{h:Heap}{e C:Addr}{d:Option Addr}(q:exO e C d h):aV P w H h e (exH e C d):=by
 obtain⟨t,he⟩:=id q;exact⟨q,⟨_,he⟩,λ h1 h2 ⟨t,a⟩ b=>⟨t,b _ a⟩⟩
theorem me{P:Program}{w:World}{H:Hp}{h:Heap}{e C:Addr}{d:Option Addr}(q:aV P w H h e (exH e C d)):exO e C d h:=q.1
section
variable {X:Cx}{pins:List (Addr × Obj)}{σ:St}{H:Hp}{s:Shared}
theorem Inv.adopt{a:Addr}{o:HO}(I:Inv X pins σ H s)(N:nF X pins a)(hn:H a=none)(new:aV X.prog X.w (upd H a o) s.heap a o):Inv X pins σ (upd H a o) s:=by
 have ne:∀ {b:Addr} {u:HO},H b=some u->b ≠ a:=λ q z=>by rw [z,hn] at q;cases q
 refine⟨I.ok,I.os,I.bare,⟨I.base.keep,I.base.slot,λ b u q n hx=>?_,I.base.there,λ b xs q=>?_,λ b u v q=>?_,λ b ps q=>?_⟩,I.loc,I.cell,?_,λ x c q=>?_,λ p hp=>?_,λ b u q=>?_,I.len⟩
 ·rw [ae (λ z=>by rw [z,N.s0] at q;cases q)];exact I.base.free b u q n hx
 ·have z:=I.base.tups b xs q;rw [ae (ne z)];exact z
 ·have z:=I.base.frzs b u v q;rw [ae (ne z)];exact z
 ·obtain⟨m,z⟩:=I.base.tbls b ps q;exact⟨m,by rw [ae (ne z)];exact z⟩
 ·rw [ae (NA N.loc)];exact I.free
 ·rw [ae (N.cel x c q)];exact I.freeC x c q
 ·obtain⟨a1,b1,c1,d1,f1⟩:=I.pin p hp;exact⟨a1,by rw [ae (N.pin p hp)];exact b1,c1,d1,f1⟩
 ·by_cases hb:b=a
  ·subst hb;rw [ag] at q;cases q;exact new
  ·rw [ae hb] at q;exact(I.hok b u q).stay (λ _ _ _ r=>r) (λ c r=>by rw [ae (ne r)];exact r) (λ c y r=>by rw [ae (ne r)];exact r) λ c xs r=>by rw [ae (ne r)];exact r
theorem Inv.newAt{a:Addr}(I:Inv X pins σ H s)(ha:s.heap.objs.size<=a):nF X pins a where
 s0:=Nd (MQ I.sz ha)
 loc:=Om (Mm I.lt ha)
 cel:=λ x c e z=>by
  obtain⟨v,o,q,_⟩:=I.cell x c e;exact absurd (Mm (Mc q) (by rw [z];exact ha)) (M5 _)
 fs:=I.nofs ha
 pin:=λ p hp z=>absurd (Mm (Mc (I.pin p hp).1) (by rw [z];exact ha)) (M5 _)
structure FD(K:W.Frag)(B:Addr):Prop where
 sp:specialIn K (.ref B) "__getattribute__"=some (some (.builtin "type.__getattribute__"))
 rd:readsIn K B (.type "type")=true
 fc:findCls K (.ref B) (.type "type") "__init__"=some (.val (.builtin "ValueError.__init__"))
def kXI(K:W.Frag)(Q:VK):List V->Hp->Prop:=λ vs H=>∃ e C d fI cy,vs=.ref e::cy/\H e=some (exH e C d)/\EY K C fI/\cy.length<=sizeLine/\Q .non H
def tXI(K:W.Frag)(t:TA):TE:=λ σ H Q=>t σ H (kXI K Q)
theorem zC{x:Str}{B:Addr}{p apos pos:Pos}{e:Expr}{es:List Expr}{t:TA}{pl:Sem Bool}(hg:Gl X x)(hm:X.mg x=some (.ref B))(b:FD X.K B)(ha:PA X (e::es) t)(hdb:(x == ("__debug__":Str))=false:=by decide)
  (hst:starEach (e::es) X.env=(false,eval e X.env)::starEach es X.env:=by rfl) (hpl:(backTo pos (starEach es X.env)).any (·.1)=false:=by rfl)
  (ht:eval (.Call (.Attribute (.Name x p) "__init__" apos) (e::es) [] pos) X.env=(do
   let ov ←eval (.Name x p) X.env
   standAt apos.atName
   let (f,first) ←holding [ov] (getMethod ov "__init__" pl)
   callWith pos f first (backTo pos (starEach (e::es) X.env)) (backToKw pos (keywordEach [] X.env))):=by rfl) :
  PE X (.Call (.Attribute (.Name x p) "__init__" apos) (e::es) [] pos) (tXI X.K t):=by
 intro pins s σ H Q I h;refine W.methodCall_KW (pl:=pl) (eu I hg hm ?_ hdb) ht;refine method_cls I.kIn b.sp (cls_value I.kIn b.rd b.fc (by decide +kernel) ?_);have I1:=I.tok (s.toks+1);refine OX (thn (ha pos pins _ σ H _ I1 h) λ us s1 ⟨vs,H1,J,r1,q1⟩=>?_) hst hpl;obtain⟨ex,C,d,fI,cy,rfl,he,O,hl,q⟩:=q1
 cases r1 with
 | cons r rr=>
  cases r;obtain⟨t0,h0⟩:=me (J.hok ex _ he);obtain⟨c,hC,T,_,_⟩:=O.op J.kIn;refine xZ (h:=s1.heap) (g:=s1.gens) (d:=s1.drawn) (t:=s1.toks) (os:=s1.os) Nq T hC h0 (by rw [←rr.length];exact hl) λ h' a1 q1 q2=>?_
  have same:upd H1 ex (exH ex C d)=H1:=funext λ b=>by
   by_cases hb:b=ex
   ·rw [hb,ag,he]
   ·rw [ae hb]
  have J2:=J.write (t':=s1.toks) (x:=ex) (e:=ex) (o:=exH ex C d) (by rw [he];trivial) (.inl rfl) (λ b u hb z=>q2 b u hb z) ⟨_,q1⟩ (vd ⟨a1,q1⟩);rw [same] at J2;exact⟨.non,H1,J2,rfl,q⟩
end
def K9(K:W.Frag)(f:Str)(y:V)(σ:St)(nx:St->Hp->Prop):VK:=λ x H=>∃ e C,x=.ref e/\H e=some (exH e C none)/\vg K C/\takerIn K C f=some none /\
 ∀ dx H',H dx=none->dx ≠ e->(∀ b o,b ≠ e->H b=some o->H' b=some o)->H' e=some (exH e C (some dx))->H' dx=some (.xd [(f,y)])->nx σ H'
def Jj(K:W.Frag)(f:Str)(ta:TE)(σ:St)(nx:St->Hp->Prop):VK:=λ y H=>ta σ H (K9 K f y σ nx)
def E1(K:W.Frag)(ta tv:TE)(f:Str):TS:=λ D σ H=>tv σ H (Jj K f ta σ D.nx)
section
variable {X:Cx}{e o value:Expr}{ta tv:TE}{f:Str}{pos pos':Pos}
theorem Cz(ha:PE X o ta)(hv:PE X value tv)(hs:swapsWith value (some (.Attribute o f pos')) pos.line X.env=pure false):PS X (.Assign [.Attribute o f pos'] value pos) (E1 X.K ta tv f):=by
 intro pins s σ H D I h;refine plainObj_wpAny_Assign_Attribute (thn (hv pins s σ H _ I h) λ u s1 ⟨y,H1,I1,ry,q⟩=>thn (ha pins s1 σ H1 _ I1 q) λ ov s2 ⟨x,H2,I2,rx,q1⟩=>?_) hs;obtain⟨ex,C,rfl,he,st,ht,k⟩:=q1;obtain rfl:ov=Value.ref ex:=rx;obtain⟨t0,h0⟩:=me (I2.hok ex _ he);refine Cv st I2.kIn h0 ht λ h' tk q1 q2 q3=>?_;have fr:H2 s2.heap.objs.size=none:=I2.hok.fresh (Mb _);have ne:s2.heap.objs.size ≠ ex:=Om (Mc h0);have J:=I2.write (t':=tk) (x:=ex) (e:=ex) (o:=exH ex C (some s2.heap.objs.size)) (by rw [he];trivial) (.inl rfl) (λ b u hb z=>q3 b u hb z) ⟨_,q1⟩ (vd ⟨t0,q1⟩);have J2:=J.adopt (a:=s2.heap.objs.size) (o:=.xd [(f,y)]) (I2.newAt (Mb _)) (by rw [ae ne];exact fr) ⟨_,q2,λ g=>?_⟩
 ·refine⟨σ,_,J2,k s2.heap.objs.size _ fr ne (λ b u hb z=>?_) ?_ ag⟩
  ·rw [ae (ah z fr),ae hb];exact z
  ·rw [ae (NA ne),ag]
 ·show nA (List.lookup g [(f,y)]) (if g=f then some u else none)
  by_cases hg:g=f
  ·subst hg;rw [My rfl,List.lookup_cons_self];exact ry
  ·have hb:(g == f)=false:=Nz.mpr hg;rw [Mw hg,NH,hb];exact True.intro
end
def del(H:Hp)(e:Addr):Hp:=λ b=>if b=e then none else H b
theorem mO{H:Hp}{e:Addr}:del H e e=none:=My rfl
theorem eY{H:Hp}{e b:Addr}(h:b ≠ e):del H e b=H b:=Mw h
theorem Inv.untrack{X:Cx}{pins:List (Addr × Obj)}{σ:St}{H:Hp}{s:Shared}{e C:Addr}{d:Option Addr}(I:Inv X pins σ H s)(he:H e=some (exH e C d)):Inv X pins σ (del H e) s:=by
 have ne:∀ {b:Addr} {u:HO},H b=some u->u ≠ exH e C d->b ≠ e:=λ q z k=>by rw [k,he] at q;exact z (MU q).symm
 have no:∀ {b:Addr},H b=none->del H e b=none:=λ {b} q=>by
  by_cases hb:b=e
  ·rw [hb];exact mO
  ·rw [eY hb];exact q
 refine⟨I.ok,I.os,I.bare,⟨I.base.keep,I.base.slot,λ b u q n hx=>no (I.base.free b u q n hx),I.base.there,λ b xs q=>?_,λ b u v q=>?_,λ b ps q=>?_⟩,I.loc,I.cell,no I.free,λ x c q=>no (I.freeC x c q),λ p hp=>?_,λ b u q=>?_,I.len⟩
 ·have z:=I.base.tups b xs q;rw [eY (ne z (by intro k;cases k))];exact z
 ·have z:=I.base.frzs b u v q;rw [eY (ne z (by intro k;cases k))];exact z
 ·obtain⟨m,z⟩:=I.base.tbls b ps q;exact⟨m,by rw [eY (ne z (by intro k;cases k))];exact z⟩
 ·obtain⟨a1,b1,c1,d1,f1⟩:=I.pin p hp;exact⟨a1,no b1,c1,d1,f1⟩
 ·have hb:b ≠ e:=λ z=>by rw [z,mO] at q;cases q
  rw [eY hb] at q;exact(I.hok b u q).stay (λ _ _ _ r=>r) (λ c r=>by rw [eY (ne r (by intro k;cases k))];exact r) (λ c y r=>by rw [eY (ne r (by intro k;cases k))];exact r) λ c xs r=>by rw [eY (ne r (by intro k;cases k))];exact r
def wj(X:Cx)(E:XK)(σ:St):Prop:=∀ (pins:List (Addr × Obj)) (H:Hp) (s:Shared) (e C:Addr) (d:Option Addr),Inv X pins σ H s->H e=none->X.s₀.heap.get? e=none->exO e C d s.heap->(∀ dx,d=some dx->∃ fs,H dx=some (.xd fs))->E (.ref C) d H->X.xe (.ref e) s
theorem jE{P:Program}{w:World}{K:W.Frag}{mg:Str->Option Value}{base:Heap}{N:List Str}{qual:Str}{scope:Scope}{f:Addr}{cd:Value}{A:Around}{outer:List Env}{s₀:Shared}{H₀:Hp}{E:XK}{σ:St} :
  wj (r6 (CX1 P w) P w K mg base N qual scope f cd A outer s₀ H₀ E) E σ:=by
 intro pins H s e C d I hn hn0 hx hd hE;obtain⟨t,he⟩:=hx
 show wpAny (model P w) (A.deeper (envOfC qual scope s₀.heap.objs.size f cd)) (leaving (envOfC qual scope s₀.heap.objs.size f cd) (.ref e)) _ _ _
 unfold leaving;have un:Un (frs outer) [] H₀ H s₀.heap s.heap:=I.base;refine wpAny_bind (rC (s:=s) (base:=base) (outer:=outer) I.ok.frames I.stack rfl he rfl rfl rfl λ g T ng nT ex=>?_);refine⟨e,T,.ref C,d,H,rfl,I.os,I.bare,un.noted ng hn0 (λ _ z=>z.elim) (λ b hb=>?_),I.hok.noted ng hn (λ _ z=>z.elim) I.stkFree,hn0,un.gone nT,hn,I.hok.gone nT,ex,hd,hE⟩
 rcases ML.mp (I.stkSub b hb) with z|z
 ·exact .inr (by rw [z];exact Nd (Mb _))
 ·exact .inl z
theorem sG{M:Model}{A:Around}{E:Value->Shared->Prop}{env:Env}{s:Shared}{x:Sem Value}{Q:Flow->Shared->Prop}{C:Addr}(hh:A.handled=none)
  (h:wpAny M A x (λ v s1=>∃ (e:Addr) (d:Option Addr) (c:JD) (newId:String),v=.ref e/\s1.heap.get? C=some (excClassObj c.nm c.q C c.N c.bs c.bm c.hdct c.sn c.sub c.ab c.col c.dd c.k0 c.k1 c.k2 c.k3 c.k5 newId)/\c.bm.contains (.type "BaseException")=true/\exO e C d s1.heap/\E (.ref e) s1) E s) :
  wpAny M A (raiseStmt env (some x) none) Q E s:=by
 unfold raiseStmt;refine wpAny_bind (wpAny_mono h (λ v s1 h1=>?_) λ _ _ z=>z);obtain⟨e,d,c,newId,rfl,hC,hb,⟨t,he⟩,hE⟩:=h1;have hcB:(Value.ref C::c.bm).contains (.type "BaseException")=true:=by rw [List.contains_cons,hb,Bool.or_true]
 obtain⟨hp,g,dr,tk,os⟩:=s1
 repeat (first|with_reducible refine NU he ?_|with_reducible refine NU hC ?_|(with_reducible refine wpAny_isSubtype_exc hC ?_;rw [hcB])|wp_step)
 exact wpAny_raiseNew_none hh hE
section
variable {X:Cx}
def kRz(e C:Addr)(E:XK):VK:=λ v H=>v=.non/\∃ d,H e=some (exH e C d)/\(∀ dx,d=some dx->∃ fs,del H e dx=some (.xd fs))/\E (.ref C) d (del H e)
def kRI(C:Addr)(sp:Sp)(E:XK):List V->Hp->Prop:=λ vs H=>vs.length<=sizeLine/\∀ e,H e=none->sp (.ref e::vs) (upd H e (exH e C none)) (kRz e C E) E0
def vt(C:Addr)(sp:Sp)(E:St->XK)(t:TA):TS:=λ _ σ H=>t σ H (kRI C sp (E σ))
theorem nZ{C fI:Addr}{fd:FuncData}{ps:List Str}{sp:Sp}{k:Nat}{x:Str}{e₀:Expr}{cy:List Expr}{np cpos pos:Pos}{t:TA}{E:St->XK}(hc:X.calm=true)(hg:Gl X x)(hmg:X.mg x=some (.ref C))(O:EY X.K C fI)
  (F:aW X.prog X.w X.K X.mg X.base CX0 k fI fd ps sp) (hr:fE (k+1) X.A) (hb:az X.K fd ps []) (hx:∀ σ,wj X (E σ) σ) (ha:PA X (e₀::cy) t)
  (he:starEach (e₀::cy) X.env=(false,eval e₀ X.env)::starEach cy X.env:=by rfl) (hplain:(backTo cpos (starEach cy X.env)).any (·.1)=false:=by rfl) (hdb:(x == ("__debug__":Str))=false:=by decide) :
  PS X (.Raise (some (.Call (.Name x np) (e₀::cy) [] cpos)) none pos) (vt C sp E t):=by
 intro pins s σ H D I h;rw [arm_exec_Raise];refine wpAny_bind (wpAny_standAt (sG (C:=C) (I.ok.hd hc) (wpAny_bind (wpAny_mono (wpAny_Call_ofName (eu I hg hmg ?_ hdb)) (λ v s3 h3=>wpAny_bind (wpAny_standAt (wpAny_pure h3))) λ _ _ z=>z))));unfold callWith;have hh:=ha cpos pins s σ H _ I h;rw [he] at hh ⊢;refine wpAny_bind (wpAny_holding (Calls.evalArgs_plain (thn hh λ us s2 ⟨vs,H2,I2,r,hl,hsp⟩=>wpAny_bind (wpAny_standAt ?_))));obtain⟨c,hC,T,hN,hi⟩:=O.op I2.kIn;have hpl2:(backTo cpos ((false,eval e₀ X.env)::starEach cy X.env)).any (·.1)=false:=(Bool.false_or _).trans hplain
 have I3:Inv X pins σ (upd H2 (s2.heap.objs.size+1) (exH (s2.heap.objs.size+1) C none)) { s2 with heap:=kC C us s2.heap }:=by
  have J:=I2.kept (t':=s2.toks) (h':=s2.heap.push { cls:=.type "tuple",data:=.seq us.toArray }) λ b u q=>Ma _ q;refine J.laid (t':=s2.toks) (a:=s2.heap.objs.size+1) (o:=exH (s2.heap.objs.size+1) C none) (λ b u q=>Ma _ q) (Oo (Na _ _)) (vd ⟨s2.heap.objs.size,?_⟩);have:=Mn (s2.heap.push { cls:=.type "tuple",data:=.seq us.toArray }) (o:=⟨.ref C,none,.fields #[.ref s2.heap.objs.size,.none,.none,.none,.bool false,.none],#[]⟩) rfl
  rwa [Na] at this
 have hq:=hsp (s2.heap.objs.size+1) (I2.hok.fresh (Nt _));have r2:br (V.ref (s2.heap.objs.size+1)::vs) (Value.ref (s2.heap.objs.size+1)::us):=.cons rfl r
 have hl2:(Value.ref (s2.heap.objs.size+1)::us++[]).length=ps.length:=by
  rw [Oq,←r2.length];exact F.len _ _ _ _ hq
 simp only [hpl2];refine L7 (wpAny_keeperOf_exc (h:=s2.heap) (g:=s2.gens) (d:=s2.drawn) (t:=s2.toks) (os:=s2.os) hC ?_);refine L7 (NM (Ez (h:=s2.heap) (g:=s2.gens) (d:=s2.drawn) (t:=s2.toks) (os:=s2.os) Nq (by decide +kernel) Nq T hC hN hi I2.kIn O.fn (by show us.length<=sizeLine;rw [←r.length];exact hl) ?_));have hbind:=hb { s2 with heap:=kC C us s2.heap } (Value.ref (s2.heap.objs.size+1)::us) I3.kIn hl2;rw [Oq] at hbind;refine NJ (F.run _ X.stack _ _ ⟨Value.ref (s2.heap.objs.size+1)::us,[]⟩ (Value.ref (s2.heap.objs.size+1)::us) _ _ E0 (hr.make C us []) (I3.env0.make C us []) hbind r2 hq) λ rr s' hq'=>?_
 cases rr with
 | error e=>exact hq'.elim
 | ok fl=>
  cases fl with
  | ret u=>
   obtain⟨v,H',I4,rv,rfl,d,hd1,hd2,hE⟩:=I3.after hq';cases rv;refine⟨rfl,L7 (M6 (wpAny_point (Mf ?_)))⟩;obtain⟨c',hC',T',_,_⟩:=O.op I4.kIn
   exact⟨s2.heap.objs.size+1,d,c',_,rfl,hC',T'.hasType (by decide +kernel),me (I4.hok _ _ hd1),
    hx σ pins (del H' (s2.heap.objs.size+1)) s' _ C d (I4.untrack hd1) mO (Nd (MQ I2.sz (Nt _))) (me (I4.hok _ _ hd1)) hd2 hE⟩
  | next=>exact False.elim hq'
  | brk=>exact False.elim hq'
  | cont=>exact False.elim hq'
def kXF(K:W.Frag)(f:Str)(Q:VK):VK:=λ x H=>∃ e oe C dx fs v,x=.ref e/\H e=some (iK oe)/\oe.cls=.ref C/\oe.dict=some dx/\(∃ vs,oe.data=.fields vs)/\H dx=some (.xd fs)/\r9 K C/\bh K C f/\fs.lookup f=some v/\Q v H
def tXF(K:W.Frag)(ta:TE)(f:Str):TE:=λ σ H Q=>ta σ H (kXF K f Q)
theorem CH{e:Expr}{f:Str}{pos:Pos}{ta:TE}(he:PE X e ta)(hb:attributeBase e f X.env (eval e X.env)=eval e X.env):PE X (.Attribute e f pos) (tXF X.K ta f):=by
 intro pins s σ H Q I h;refine wb hb (thn (he pins s σ H _ I h) λ u s1 ⟨x,H1,I1,rx,q1⟩=>?_);obtain⟨ex,oe,C,dx,fs,v,rfl,hx,hcl,hd,⟨vs,hdat⟩,hxd,c,n,l,q⟩:=q1;obtain rfl:u=Value.ref ex:=rx;have h1:s1.heap.get? ex=some oe:=(I1.hok ex _ hx).1;obtain⟨mA,hn,hr⟩:=I1.hok dx _ hxd;obtain⟨u,hu,ru⟩:=nA.some_of (v:=v) (o:=mA f) (by rw [←l];exact hr f);exact EA c I1.kIn h1 hcl (by unfold notCls;rw [hdat]) hd hn n hu (oj ru) ⟨v,H1,I1.tok _,ru,q⟩
theorem zD{K:W.Frag}(hK:X.K=K){e:Expr}{f:Str}{pos:Pos}{ta:TE}(he:PE X e ta)(hb:attributeBase e f X.env (eval e X.env)=eval e X.env):PE X (.Attribute e f pos) (tXF K ta f):=hK ▸ CH he hb
end
theorem Ex{a:Option V}{v:V}{σ:St}{H:Hp}{Q:St->Hp->Prop}:dE 0 v (a::σ) H Q=Q (some v::σ) H:=rfl
theorem Ew{a0:Option V}{a:Option V}{v:V}{σ:St}{H:Hp}{Q:St->Hp->Prop}:dE 1 v (a0::a::σ) H Q=Q (a0::some v::σ) H:=rfl
theorem Eu{a0 a1:Option V}{a:Option V}{v:V}{σ:St}{H:Hp}{Q:St->Hp->Prop}:dE 2 v (a0::a1::a::σ) H Q=Q (a0::a1::some v::σ) H:=rfl
theorem Et{a0 a1 a2:Option V}{a:Option V}{v:V}{σ:St}{H:Hp}{Q:St->Hp->Prop}:dE 3 v (a0::a1::a2::a::σ) H Q=Q (a0::a1::a2::some v::σ) H:=rfl
theorem Es{a0 a1 a2 a3:Option V}{a:Option V}{v:V}{σ:St}{H:Hp}{Q:St->Hp->Prop}:dE 4 v (a0::a1::a2::a3::a::σ) H Q=Q (a0::a1::a2::a3::some v::σ) H:=rfl
theorem Er{a0 a1 a2 a3 a4:Option V}{a:Option V}{v:V}{σ:St}{H:Hp}{Q:St->Hp->Prop}:dE 5 v (a0::a1::a2::a3::a4::a::σ) H Q=Q (a0::a1::a2::a3::a4::some v::σ) H:=rfl
theorem Ep{a0 a1 a2 a3 a4 a5:Option V}{a:Option V}{v:V}{σ:St}{H:Hp}{Q:St->Hp->Prop}:dE 6 v (a0::a1::a2::a3::a4::a5::a::σ) H Q=Q (a0::a1::a2::a3::a4::a5::some v::σ) H:=rfl
theorem Eo{a0 a1 a2 a3 a4 a5 a6:Option V}{a:Option V}{v:V}{σ:St}{H:Hp}{Q:St->Hp->Prop}:dE 7 v (a0::a1::a2::a3::a4::a5::a6::a::σ) H Q=Q (a0::a1::a2::a3::a4::a5::a6::some v::σ) H:=rfl
theorem En{a0 a1 a2 a3 a4 a5 a6 a7:Option V}{a:Option V}{v:V}{σ:St}{H:Hp}{Q:St->Hp->Prop}:dE 8 v (a0::a1::a2::a3::a4::a5::a6::a7::a::σ) H Q=Q (a0::a1::a2::a3::a4::a5::a6::a7::some v::σ) H:=rfl
theorem Em{a0 a1 a2 a3 a4 a5 a6 a7 a8:Option V}{a:Option V}{v:V}{σ:St}{H:Hp}{Q:St->Hp->Prop}:dE 9 v (a0::a1::a2::a3::a4::a5::a6::a7::a8::a::σ) H Q=Q (a0::a1::a2::a3::a4::a5::a6::a7::a8::some v::σ) H:=rfl
theorem Az{a0 a1 a2 a3 a4 a5 a6 a7 a8 a9:Option V}{a:Option V}{v:V}{σ:St}{H:Hp}{Q:St->Hp->Prop}:dE 10 v (a0::a1::a2::a3::a4::a5::a6::a7::a8::a9::a::σ) H Q=Q (a0::a1::a2::a3::a4::a5::a6::a7::a8::a9::some v::σ) H:=rfl
theorem Ay{a0 a1 a2 a3 a4 a5 a6 a7 a8 a9 a10:Option V}{a:Option V}{v:V}{σ:St}{H:Hp}{Q:St->Hp->Prop}:dE 11 v (a0::a1::a2::a3::a4::a5::a6::a7::a8::a9::a10::a::σ) H Q=Q (a0::a1::a2::a3::a4::a5::a6::a7::a8::a9::a10::some v::σ) H:=rfl
theorem Ax{a0 a1 a2 a3 a4 a5 a6 a7 a8 a9 a10 a11:Option V}{a:Option V}{v:V}{σ:St}{H:Hp}{Q:St->Hp->Prop}:dE 12 v (a0::a1::a2::a3::a4::a5::a6::a7::a8::a9::a10::a11::a::σ) H Q=Q (a0::a1::a2::a3::a4::a5::a6::a7::a8::a9::a10::a11::some v::σ) H:=rfl
def aX{α:Type}:Option α->(α->Prop)->Prop
 | some x,k=>k x
 | none,_=>False
theorem dZ{α:Type}(x:α)(k:α->Prop):aX (some x) k=k x:=rfl
theorem ao{α:Type}{o:Option α}{k:α->Prop}(h:aX o k):∃ x,o=some x/\k x:=by
 cases o with
 | none=>exact h.elim
 | some x=>exact⟨x,rfl,h⟩
def Iu:HO->Option (List V)
 | .lst xs=>some xs
 | .tup xs=>some xs
 | .frz _ (.lst xs)=>some xs
 | _=>none
def Ji:HO->Option (List V)
 | .lst xs=>some xs
 | _=>none
def IT:HO->Option (List V)
 | .tup xs=>some xs
 | _=>none
def cE(H:Hp)(p:Addr):Option (List V):=(H p).bind Iu
def aO(H:Hp)(p:Addr):Option (List V):=(H p).bind Ji
def ur(H:Hp)(p:Addr):Option (List V):=(H p).bind IT
theorem zl(xs:List V):Iu (.lst xs)=some xs:=rfl
theorem zk(xs:List V):Iu (.tup xs)=some xs:=rfl
theorem Ad(xs:List V):Ji (.lst xs)=some xs:=rfl
theorem zi(xs:List V):IT (.tup xs)=some xs:=rfl
theorem t8{α β:Type}(x:α)(f:α->Option β):(some x).bind f=f x:=rfl
abbrev Ext(H H':Hp):Prop:=(∀ a,(H a).isSome=true->H' a=H a)/\∀ (K:PySem.W.Frag) a xs,SqL K H a xs->SqL K H' a xs
def IB(r:R2)(x:V)(Q:VK):VK:=λ y H=>r x y H Q
theorem Bq(r:R2)(x y:V)(H:Hp)(Q:VK):(IB r x Q y H)=(r x y H Q):=rfl
def kOp(r:R2)(tb:TE)(σ:St)(Q:VK):VK:=λ x H=>tb σ H (IB r x Q)
theorem Kk(r:R2)(tb:TE)(σ:St)(Q:VK)(x:V)(H:Hp):(kOp r tb σ Q x H)=(tb σ H (IB r x Q)):=rfl
theorem J1(r:R2)(ta tb:TE)(σ:St)(H:Hp)(Q:VK):(tOp r ta tb σ H Q)=(ta σ H (kOp r tb σ Q)):=rfl
theorem LL(v:V)(σ:St)(H:Hp)(Q:VK):(tC v σ H Q)=(Q v H):=rfl
def kUn(r:V->Hp->VK->Prop)(Q:VK):VK:=λ x H=>r x H Q
theorem Ke(r:V->Hp->VK->Prop)(Q:VK)(x:V)(H:Hp):(kUn r Q x H)=(r x H Q):=rfl
theorem JZ(r:V->Hp->VK->Prop)(ta:TE)(σ:St)(H:Hp)(Q:VK):(tUn r ta σ H Q)=(ta σ H (kUn r Q)):=rfl
def IX:R2:=λ x y H Q=>y=.non/\Q (.bl (decide (x=.non))) H
def yM:R2:=λ x y H Q=>y=.non/\Q (.bl (!decide (x=.non))) H
theorem sQ(H:Hp)(Q:VK):IX (.non) .non H Q=Q (.bl true) H:=propext ⟨λ h=>h.2,λ h=>⟨rfl,h⟩⟩
theorem qm(H:Hp)(Q:VK):yM (.non) .non H Q=Q (.bl false) H:=propext ⟨λ h=>h.2,λ h=>⟨rfl,h⟩⟩
theorem sR(i:Int)(H:Hp)(Q:VK):IX (.int i) .non H Q=Q (.bl false) H:=propext ⟨λ h=>h.2,λ h=>⟨rfl,h⟩⟩
theorem qo(i:Int)(H:Hp)(Q:VK):yM (.int i) .non H Q=Q (.bl true) H:=propext ⟨λ h=>h.2,λ h=>⟨rfl,h⟩⟩
def Fq(Q:Bool->Hp->Prop):VK:=λ x H=>∃ k,x=.bl k/\Q k H
def Ld(Q:Bool->Hp->Prop):Bool->Hp->Prop:=λ c H=>Q (!c) H
theorem Hj(Q:Bool->Hp->Prop)(c:Bool)(H:Hp):(Ld Q c H)=(Q (!c) H):=rfl
theorem GN(t:TT)(σ:St)(H:Hp)(Q:Bool->Hp->Prop):(KS t σ H Q)=(t σ H (Ld Q)):=rfl
def Lm(u:TT)(σ:St)(Q:Bool->Hp->Prop):Bool->Hp->Prop:=λ c H=>if c=true then u σ H Q else Q false H
theorem HN(u:TT)(σ:St)(Q:Bool->Hp->Prop)(c:Bool)(H:Hp):(Lm u σ Q c H)=(if c=true then u σ H Q else Q false H):=rfl
theorem GU(t u:TT)(σ:St)(H:Hp)(Q:Bool->Hp->Prop):(KZ t u σ H Q)=(t σ H (Lm u σ Q)):=rfl
def kOr(u:TT)(σ:St)(Q:Bool->Hp->Prop):Bool->Hp->Prop:=λ c H=>if c=true then Q true H else u σ H Q
theorem Kj(u:TT)(σ:St)(Q:Bool->Hp->Prop)(c:Bool)(H:Hp):(kOr u σ Q c H)=(if c=true then Q true H else u σ H Q):=rfl
theorem J0(t u:TT)(σ:St)(H:Hp)(Q:Bool->Hp->Prop):(tOr t u σ H Q)=(t σ H (kOr u σ Q)):=rfl
def KC(tb:TE)(σ:St)(Q:VK):VK:=λ x H=>∃ c,x=.bl c/\if c=true then tb σ H Q else Q (.bl false) H
def Kx(Q:VK):VK:=λ x H=>∃ c,x=.bl c/\Q (.bl (!c)) H
def Lf(ta tb:TE)(σ:St)(Q:VK):Bool->Hp->Prop:=λ c H=>if c=true then ta σ H Q else tb σ H Q
theorem Hr(ta tb:TE)(σ:St)(Q:VK)(c:Bool)(H:Hp):(Lf ta tb σ Q c H)=(if c=true then ta σ H Q else tb σ H Q):=rfl
theorem J5(t:TT)(ta tb:TE)(σ:St)(H:Hp)(Q:VK):(tIf t ta tb σ H Q)=(t σ H (Lf ta tb σ Q)):=rfl
def II(r':R2)(y:V)(Q:VK):VK:=λ w H=>r' y w H Q
theorem HA(r':R2)(y w:V)(Q:VK)(H:Hp):(II r' y Q w H)=(r' y w H Q):=rfl
def Jv(r':R2)(tc:TE)(σ:St)(y:V)(Q:VK):VK:=λ z H=>∃ k,z=.bl k/\(if k=true then tc σ H (II r' y Q) else Q (.bl false) H)
def Li(r r':R2)(tc:TE)(σ:St)(x:V)(Q:VK):VK:=λ y H=>r x y H (Jv r' tc σ y Q)
def LS(r r':R2)(tb tc:TE)(σ:St)(Q:VK):VK:=λ x H=>tb σ H (Li r r' tc σ x Q)
theorem GO(σ:St)(H:Hp)(Q:List V->Hp->Prop):(Iq σ H Q)=(Q [] H):=rfl
def u7(x:V)(Q:List V->Hp->Prop):List V->Hp->Prop:=λ xs H=>Q (x::xs) H
theorem Aa(x:V)(Q:List V->Hp->Prop)(xs:List V)(H:Hp):(u7 x Q xs H)=(Q (x::xs) H):=rfl
def Fv(tr:TA)(σ:St)(Q:List V->Hp->Prop):VK:=λ x H=>tr σ H (u7 x Q)
theorem DU(tr:TA)(σ:St)(Q:List V->Hp->Prop)(x:V)(H:Hp):(Fv tr σ Q x H)=(tr σ H (u7 x Q)):=rfl
theorem Dm(ta:TE)(tr:TA)(σ:St)(H:Hp)(Q:List V->Hp->Prop):(yL ta tr σ H Q)=(ta σ H (Fv tr σ Q)):=rfl
def uC(sp:Sp)(dvs:List V)(E:XK)(Q:VK):List V->Hp->Prop:=λ vs H=>sp (vs++dvs) H Q E
theorem xy(v0:V)(sp:Sp)(dvs:List V)(E:XK)(Q:VK)(H:Hp):uC sp dvs E Q [v0] H=sp (v0::dvs) H Q E:=rfl
theorem xt(v0 v1:V)(sp:Sp)(dvs:List V)(E:XK)(Q:VK)(H:Hp):uC sp dvs E Q [v0,v1] H=sp (v0::v1::dvs) H Q E:=rfl
theorem xq(v0 v1 v2:V)(sp:Sp)(dvs:List V)(E:XK)(Q:VK)(H:Hp):uC sp dvs E Q [v0,v1,v2] H=sp (v0::v1::v2::dvs) H Q E:=rfl
theorem Dp(sp:Sp)(dvs:List V)(E:XK)(t:TA)(σ:St)(H:Hp)(Q:VK):(E9 sp dvs E t σ H Q)=(t σ H (uC sp dvs E Q)):=rfl
def kCB(r:List V->Hp->VK->Prop)(Q:VK):List V->Hp->Prop:=λ vs H=>r vs H Q
theorem Kr(r:List V->Hp->VK->Prop)(Q:VK)(vs:List V)(H:Hp):(kCB r Q vs H)=(r vs H Q):=rfl
theorem J6(r:List V->Hp->VK->Prop)(t:TA)(σ:St)(H:Hp)(Q:VK):(tCB r t σ H Q)=(t σ H (kCB r Q)):=rfl
theorem Di(nx:St->Hp->Prop)(rt:VK)(bk ct:St->Hp->Prop)(σ:St)(H:Hp):(E5 ⟨nx,rt,bk,ct⟩ σ H)=(nx σ H):=rfl
theorem GK(t u:TS)(nx:St->Hp->Prop)(rt:VK)(bk ct:St->Hp->Prop)(σ:St)(H:Hp):(KQ t u ⟨nx,rt,bk,ct⟩ σ H)=(t ⟨u ⟨nx,rt,bk,ct⟩,rt,bk,ct⟩ σ H):=rfl
theorem GL(te:TE)(nx:St->Hp->Prop)(rt:VK)(bk ct:St->Hp->Prop)(σ:St)(H:Hp):(KR te ⟨nx,rt,bk,ct⟩ σ H)=(te σ H rt):=rfl
def Fu(nx:St->Hp->Prop)(σ:St):VK:=λ x H=>nx σ H
theorem DT(nx:St->Hp->Prop)(σ:St)(x:V)(H:Hp):(Fu nx σ x H)=(nx σ H):=rfl
theorem Dk(te:TE)(nx:St->Hp->Prop)(rt:VK)(bk ct:St->Hp->Prop)(σ:St)(H:Hp):(E7 te ⟨nx,rt,bk,ct⟩ σ H)=(te σ H (Fu nx σ)):=rfl
def Le(t u:TS)(D:gF)(σ:St):Bool->Hp->Prop:=λ b H=>if b=true then t D σ H else u D σ H
theorem Hq(t u:TS)(D:gF)(σ:St)(b:Bool)(H:Hp):(Le t u D σ b H)=(if b=true then t D σ H else u D σ H):=rfl
theorem Bo(c:TT)(t u:TS)(D:gF)(σ:St)(H:Hp):(Ir c t u D σ H)=(c σ H (Le t u D σ)):=rfl
def Lk(g:TG)(σ:St)(nx:St->Hp->Prop):VK:=λ x H=>g x σ H nx
theorem HK(g:TG)(σ:St)(nx:St->Hp->Prop)(x:V)(H:Hp):(Lk g σ nx x H)=(g x σ H nx):=rfl
theorem GS(te:TE)(g:TG)(nx:St->Hp->Prop)(rt:VK)(bk ct:St->Hp->Prop)(σ:St)(H:Hp):(IU te g ⟨nx,rt,bk,ct⟩ σ H)=(te σ H (Lk g σ nx)):=rfl
def kGs(u:TGs)(r:List V)(Q:St->Hp->Prop):St->Hp->Prop:=λ σ' H'=>u r σ' H' Q
theorem Km(u:TGs)(r:List V)(Q:St->Hp->Prop)(σ:St)(H:Hp):(kGs u r Q σ H)=(u r σ H Q):=rfl
section
variable {X:Cx}
theorem OpR.mono{f:Value->Value->Sem Value}{r r':R2}(h:OpR X f r)(m:∀ x y H Q,r' x y H Q->r x y H Q):OpR X f r':=λ pins s σ H x y v u Q I rx ry hq=>h pins s σ H x y v u Q I rx ry (m _ _ _ _ hq)
theorem bO.mono{f:Value}{r r':List V->Hp->VK->Prop}(h:bO X f r)(m:∀ xs H Q,r' xs H Q->r xs H Q):bO X f r':=λ pins s σ H xs us Q I rx hq=>h pins s σ H xs us Q I rx (m _ _ _ hq)
theorem IxR.mono{r r':R2}(h:IxR X r)(m:∀ x y H Q,r' x y H Q->r x y H Q):IxR X r':=λ a b pins s σ H x y v u Q I rx ry hq=>h a b pins s σ H x y v u Q I rx ry (m _ _ _ _ hq)
theorem PG.mono{tg:Expr}{g g':TG}(h:PG X tg g)(m:∀ v σ H Q,g' v σ H Q->g v σ H Q):PG X tg g':=λ pins s σ H v u Q I r hq=>h pins s σ H v u Q I r (m _ _ _ _ hq)
theorem gP{K:W.Frag}{H:Hp}{p:Addr}{ys:List V}(h:cE H p=some ys):SqL K H p ys\/SqT K H p ys:=by
 unfold cE at h
 cases e:H p with
 | none=>rw [e] at h;cases h
 | some o=>
  rw [e] at h;have h':Iu o=some ys:=h
  cases o with
  | lst xs=>cases h';exact .inl (SqL.of e)
  | tup xs=>cases h';exact .inr (SqT.of e)
  | frz ob u=>
   cases u with
   | lst xs=>cases h';exact .inl (.inl (.inr ⟨ob,e⟩))
   | _=>cases h'
  | _=>cases h'
theorem di{H:Hp}{p:Addr}{ys:List V}(h:aO H p=some ys):H p=some (.lst ys):=by
 unfold aO at h
 cases e:H p with
 | none=>rw [e] at h;cases h
 | some o=>
  rw [e] at h;have h':Ji o=some ys:=h
  cases o with
  | lst xs=>cases h';rfl
  | _=>cases h'
theorem FJ{H:Hp}{p:Addr}{ys:List V}(h:ur H p=some ys):H p=some (.tup ys):=by
 unfold ur at h
 cases e:H p with
 | none=>rw [e] at h;cases h
 | some o=>
  rw [e] at h;have h':IT o=some ys:=h
  cases o with
  | tup xs=>cases h';rfl
  | _=>cases h'
def Jm(H:Hp)(Q:VK):List V->Prop:=λ ys=>Q (.int ys.length) H
theorem Hm(H:Hp)(Q:VK)(ys:List V):Jm H Q ys=Q (.int ys.length) H:=rfl
def Jd(xs:List V)(H:Hp)(Q:VK):Prop:=match xs with
 | [.ref p]=>aX (cE H p) (Jm H Q)
 | [.str z]=>z.length<=sizeLine/\Q (.int z.length) H
 | _=>False
theorem G8(p:Addr)(H:Hp)(Q:VK):Jd [.ref p] H Q=aX (cE H p) (Jm H Q):=rfl
theorem aL:bO X (.builtin "len") Jd:=by
 refine(dA.or pd).mono λ xs H Q h=>?_;unfold Jd at h;split at h
 ·rename_i p;obtain⟨ys,e,q⟩:=ao h;exact .inl ⟨p,ys,rfl,gP e,q⟩
 ·rename_i z;exact .inr ⟨z,rfl,h.1,h.2⟩
 ·exact h.elim
def Jn(H:Hp)(Q:VK):V->Prop:=λ v=>Q v H
theorem Hn(H:Hp)(Q:VK)(v:V):Jn H Q v=Q v H:=rfl
def kIx(i:Int)(H:Hp)(Q:VK):List V->Prop:=λ ys=>aX (atI ys i) (Jn H Q)
theorem Kl(i:Int)(H:Hp)(Q:VK)(ys:List V):kIx i H Q ys=aX (atI ys i) (Jn H Q):=rfl
def qIx:R2:=λ x y H Q=>match x,y with
 | .ref p,.int i=>aX (cE H p) (kIx i H Q)
 | _,_=>False
theorem J8(p:Addr)(i:Int)(H:Hp)(Q:VK):qIx (.ref p) (.int i) H Q=aX (cE H p) (kIx i H Q):=rfl
theorem bL:IxR X qIx:=by
 refine(p7.or Ic).mono λ x y H Q h=>?_;unfold qIx at h;split at h
 ·rename_i p i;obtain⟨ys,e,q⟩:=ao h;obtain⟨v,e2,q2⟩:=ao q
  rcases gP (K:=X.K) e with z|z
  ·exact .inl ⟨p,ys,i,v,rfl,rfl,z,e2,q2⟩
  ·exact .inr ⟨p,ys,i,v,rfl,rfl,z,e2,q2⟩
 ·exact h.elim
theorem KJ{α:Type}(a:α)(xs:List α):atI (a::xs) 0=some a:=bA (j:=0) rfl
theorem KI{α:Type}(a b:α)(xs:List α):atI (a::b::xs) 1=some b:=bA (j:=1) rfl
def Ky(H:Hp)(Q:VK):List V->Prop:=λ ys=>∀ l,H l=none->Q (.ref l) (upd H l (.lst ys))
def Ff(xs:List V)(H:Hp)(Q:VK):Prop:=match xs with
 | [.ref p]=>aX (cE H p) (Ky H Q)
 | _=>False
theorem tP:bO X (.type "list") Ff:=by
 refine o9.mono λ xs H Q h=>?_;unfold Ff at h;split at h
 ·rename_i p;obtain⟨ys,e,q⟩:=ao h;exact⟨p,ys,rfl,gP e,q⟩
 ·exact h.elim
def Jc(xs:List V)(H:Hp)(Q:VK):Prop:=match xs with
 | [.int i,.int j]=>Q (.int (if i < j then j else i)) H
 | _=>False
theorem GZ(i j:Int)(H:Hp)(Q:VK):Jc [.int i,.int j] H Q=Q (.int (if i < j then j else i)) H:=rfl
theorem oz(hc:X.calm=true):bO X (.builtin "max") Jc:=by
 refine(yj hc).mono λ xs H Q h=>?_;unfold Jc at h;split at h
 ·rename_i i j;exact⟨i,j,rfl,h⟩
 ·exact h.elim
def Jb(xs:List V)(H:Hp)(Q:VK):Prop:=match xs with
 | [.int i,.int j]=>Q (.int (if j < i then j else i)) H
 | _=>False
theorem GY(i j:Int)(H:Hp)(Q:VK):Jb [.int i,.int j] H Q=Q (.int (if j < i then j else i)) H:=rfl
theorem oy(hc:X.calm=true):bO X (.builtin "min") Jb:=by
 refine(yh hc).mono λ xs H Q h=>?_;unfold Jb at h;split at h
 ·rename_i i j;exact⟨i,j,rfl,h⟩
 ·exact h.elim
def tyO:HO->Option String
 | .lst _=>some "list"
 | .tup _=>some "tuple"
 | .frz _ (.lst _)=>some "list"
 | .dK _=>some "dict"
 | .dT _=>some "dict"
 | _=>none
theorem Cn(xs:List V):tyO (.lst xs)=some "list":=rfl
theorem Cm(xs:List V):tyO (.tup xs)=some "tuple":=rfl
def tyN(H:Hp):V->Option String
 | .non=>some "NoneType"
 | .bl _=>some "bool"
 | .int _=>some "int"
 | .str _=>some "str"
 | .ref p=>(H p).bind tyO
 | _=>none
theorem Cq(H:Hp):tyN H .non=some "NoneType":=rfl
theorem FI(H:Hp)(b:Bool):tyN H (.bl b)=some "bool":=rfl
theorem Cr(H:Hp)(i:Int):tyN H (.int i)=some "int":=rfl
theorem Co(H:Hp)(x:Str):tyN H (.str x)=some "str":=rfl
theorem Cp(H:Hp)(p:Addr):tyN H (.ref p)=(H p).bind tyO:=rfl
theorem FH{K:W.Frag}{H:Hp}{x:V}{t:String}(h:tyN H x=some t):qI K H x (.type t):=by
 cases x with
 | non=>cases h;exact .non
 | bl b=>cases h;exact .bl b
 | int i=>cases h;exact .int i
 | str x=>cases h;exact .str x
 | ref p=>
  have h':(H p).bind tyO=some t:=h
  cases e:H p with
  | none=>rw [e] at h';cases h'
  | some o=>
   rw [e] at h';have h2:tyO o=some t:=h'
   cases o with
   | lst xs=>cases h2;exact .lst e
   | tup xs=>cases h2;exact .tup e
   | dK xs=>cases h2;exact .dK e
   | dT xs=>cases h2;exact .dT e
   | frz ob u=>
    cases u with
    | lst xs=>cases h2;exact .frz e
    | _=>cases h2
   | _=>cases h2
 | _=>cases h
def nO:List String:=["NoneType", "bool", "int", "str", "list", "tuple", "dict"]
def Lo(t n:String):Bool:=t == n || (t == "bool" && n == "int")
theorem Ao(K:W.Frag):∀ t∈nO,∀ n∈nO,W.kitOne K (.type t) (.type n)=some (Lo t n):=by
 intro t ht n hn;unfold nO at ht hn;simp only [mem_cons,not_mem_nil,or_false] at ht hn
 rcases ht with rfl|rfl|rfl|rfl|rfl|rfl|rfl<;>rcases hn with rfl|rfl|rfl|rfl|rfl|rfl|rfl<;>exact xU K _ _ _ (by decide +kernel)
def pE(n:String)(H:Hp)(Q:VK):String->Prop:=λ t=>t∈nO/\Q (.bl (Lo t n)) H
def yA(xs:List V)(H:Hp)(Q:VK):Prop:=match xs with
 | [x,.ty n]=>n∈nO/\aX (tyN H x) (pE n H Q)
 | _=>False
theorem bT:bO X (.builtin "isinstance") yA:=by
 refine AJ.mono λ xs H Q h=>?_;unfold yA at h;split at h
 ·rename_i x n;obtain⟨hn,h⟩:=h;obtain⟨t,e,ht,q⟩:=ao h;exact⟨x,n,_,_,rfl,FH e,Ao _ t ht n hn,q⟩
 ·exact h.elim
theorem sS(x:V)(H:Hp)(Q:VK):yA [x,.ty "int"] H Q=aX (tyN H x) (pE "int" H Q):=by
 unfold yA;exact propext ⟨λ h=>h.2,λ h=>⟨by decide,h⟩⟩
theorem qq(x:V)(H:Hp)(Q:VK):yA [x,.ty "bool"] H Q=aX (tyN H x) (pE "bool" H Q):=by
 unfold yA;exact propext ⟨λ h=>h.2,λ h=>⟨by decide,h⟩⟩
theorem o3(x:V)(H:Hp)(Q:VK):yA [x,.ty "tuple"] H Q=aX (tyN H x) (pE "tuple" H Q):=by
 unfold yA;exact propext ⟨λ h=>h.2,λ h=>⟨by decide,h⟩⟩
theorem qp(x:V)(H:Hp)(Q:VK):yA [x,.ty "list"] H Q=aX (tyN H x) (pE "list" H Q):=by
 unfold yA;exact propext ⟨λ h=>h.2,λ h=>⟨by decide,h⟩⟩
theorem xo(H:Hp)(Q:VK):pE "int" H Q "NoneType"=Q (.bl false) H:=propext ⟨λ h=>h.2,λ h=>⟨by decide,h⟩⟩
theorem xn(H:Hp)(Q:VK):pE "bool" H Q "bool"=Q (.bl true) H:=propext ⟨λ h=>h.2,λ h=>⟨by decide,h⟩⟩
theorem xm(H:Hp)(Q:VK):pE "int" H Q "bool"=Q (.bl true) H:=propext ⟨λ h=>h.2,λ h=>⟨by decide,h⟩⟩
theorem xk(H:Hp)(Q:VK):pE "bool" H Q "int"=Q (.bl false) H:=propext ⟨λ h=>h.2,λ h=>⟨by decide,h⟩⟩
theorem xj(H:Hp)(Q:VK):pE "int" H Q "int"=Q (.bl true) H:=propext ⟨λ h=>h.2,λ h=>⟨by decide,h⟩⟩
theorem xg(H:Hp)(Q:VK):pE "int" H Q "str"=Q (.bl false) H:=propext ⟨λ h=>h.2,λ h=>⟨by decide,h⟩⟩
theorem xi(H:Hp)(Q:VK):pE "int" H Q "list"=Q (.bl false) H:=propext ⟨λ h=>h.2,λ h=>⟨by decide,h⟩⟩
theorem xh(H:Hp)(Q:VK):pE "list" H Q "list"=Q (.bl true) H:=propext ⟨λ h=>h.2,λ h=>⟨by decide,h⟩⟩
theorem xf(H:Hp)(Q:VK):pE "int" H Q "tuple"=Q (.bl false) H:=propext ⟨λ h=>h.2,λ h=>⟨by decide,h⟩⟩
theorem w9(H:Hp)(Q:VK):pE "tuple" H Q "tuple"=Q (.bl true) H:=propext ⟨λ h=>h.2,λ h=>⟨by decide,h⟩⟩
theorem xl(H:Hp)(Q:VK):pE "int" H Q "dict"=Q (.bl false) H:=propext ⟨λ h=>h.2,λ h=>⟨by decide,h⟩⟩
def Jx(r:V->List V->Hp->VK->Prop)(x:V)(Q:VK):List V->Hp->Prop:=λ xs H=>r x xs H Q
theorem HH(r:V->List V->Hp->VK->Prop)(x:V)(Q:VK)(xs:List V)(H:Hp):Jx r x Q xs H=r x xs H Q:=rfl
def kBM(K:W.Frag)(T:String)(r:V->List V->Hp->VK->Prop)(t:TA)(σ:St)(Q:VK):VK:=λ x H=>tyV K T x H/\t σ H (Jx r x Q)
theorem Ku(K:W.Frag)(T:String)(r:V->List V->Hp->VK->Prop)(t:TA)(σ:St)(Q:VK)(x:V)(H:Hp):kBM K T r t σ Q x H=(tyV K T x H/\t σ H (Jx r x Q)):=rfl
theorem J7(K:W.Frag)(T:String)(r:V->List V->Hp->VK->Prop)(to:TE)(t:TA)(σ:St)(H:Hp)(Q:VK):tBM K T r to t σ H Q=to σ H (kBM K T r t σ Q):=rfl
def Lj(K:W.Frag)(T:String)(r:V->List V->Hp->VK->Prop)(Q:VK):VK:=λ x H=>tyV K T x H/\r x [] H Q
theorem HG(K:W.Frag)(T:String)(r:V->List V->Hp->VK->Prop)(Q:VK)(x:V)(H:Hp):Lj K T r Q x H=(tyV K T x H/\r x [] H Q):=rfl
theorem GR(K:W.Frag)(T:String)(r:V->List V->Hp->VK->Prop)(to:TE)(σ:St)(H:Hp)(Q:VK):KY K T r to σ H Q=to σ H (Lj K T r Q):=rfl
theorem zd(K:W.Frag)(p:Addr)(H:Hp)(h:(aO H p).isSome=true):tyV K "list" (.ref p) H=True:=by
 cases e:aO H p with
 | none=>rw [e] at h;cases h
 | some ys=>exact eq_true (.inl ⟨rfl,ys,SqL.of (di e)⟩)
def Ll(l:Addr)(y:V)(H:Hp)(Q:VK):List V->Prop:=λ xs=>xs.length < sizeLine/\Q .non (upd H l (.lst (xs++[y])))
theorem HL(l:Addr)(y:V)(H:Hp)(Q:VK)(xs:List V):Ll l y H Q xs=(xs.length < sizeLine/\Q .non (upd H l (.lst (xs++[y])))):=rfl
theorem wZ(l:Addr)(y:V)(H:Hp)(Q:VK):vE (.ref l) [y] H Q=aX (aO H l) (Ll l y H Q):=by
 refine propext ⟨λ h=>?_,λ h=>?_⟩
 ·obtain⟨_,xs,_,e1,e2,e3,a,b⟩:=h;cases e1;cases e2;have e:aO H l=some xs:=by unfold aO;rw [e3];rfl
  rw [e];exact⟨a,b⟩
 ·obtain⟨xs,e,a,b⟩:=ao h;exact⟨l,xs,y,rfl,rfl,di e,a,b⟩
def Lc(l:Addr)(H:Hp)(Q:VK):List V->Prop:=λ xs=>Q .non (upd H l (.lst xs.reverse))
theorem Hh(l:Addr)(H:Hp)(Q:VK)(xs:List V):Lc l H Q xs=Q .non (upd H l (.lst xs.reverse)):=rfl
theorem sP(l:Addr)(H:Hp)(Q:VK):rk (.ref l) [] H Q=aX (aO H l) (Lc l H Q):=by
 refine propext ⟨λ h=>?_,λ h=>?_⟩
 ·obtain⟨_,xs,e1,_,e3,b⟩:=h;cases e1;have e:aO H l=some xs:=by unfold aO;rw [e3];rfl
  rw [e];exact b
 ·obtain⟨xs,e,b⟩:=ao h;exact⟨l,xs,rfl,rfl,di e,b⟩
def Kz(xs:List V)(H:Hp)(Q:VK):List V->Prop:=λ ys=>xs.length+ys.length<=sizeLine/\∀ p,H p=none->Q (.ref p) (upd H p (.lst (xs++ys)))
def KA(b:Addr)(H:Hp)(Q:VK):List V->Prop:=λ xs=>aX (aO H b) (Kz xs H Q)
theorem GV(l b:Addr)(H:Hp)(Q:VK):K0 (.ref l) (.ref b) H Q=aX (aO H l) (KA b H Q):=by
 refine propext ⟨λ h=>?_,λ h=>?_⟩
 ·obtain⟨l',b',xs,zs,e1,e2,e3,e4,hz,hq⟩:=h;cases e1;cases e2;have e:aO H l=some xs:=by unfold aO;rw [e3];rfl
  have e':aO H b=some zs:=by unfold aO;rw [e4];rfl
  rw [e]
  show aX (aO H b) _
  rw [e'];exact⟨hz,hq⟩
 ·obtain⟨xs,e,q⟩:=ao h;obtain⟨zs,e',a,q⟩:=ao q;exact⟨l,b,xs,zs,rfl,rfl,di e,di e',a,q⟩
def kGT(n:Nat)(t:TGs)(σ:St)(H:Hp)(Q:St->Hp->Prop):List V->Prop:=λ xs=>xs.length=n/\t xs σ H Q
theorem Kn(n:Nat)(t:TGs)(σ:St)(H:Hp)(Q:St->Hp->Prop)(xs:List V):kGT n t σ H Q xs=(xs.length=n/\t xs σ H Q):=rfl
def qGT(n:Nat)(t:TGs):TG:=λ v σ H Q=>match v with
 | .ref a=>aX (ur H a) (kGT n t σ H Q)
 | _=>False
theorem J9(n:Nat)(t:TGs)(a:Addr)(σ:St)(H:Hp)(Q:St->Hp->Prop):qGT n t (.ref a) σ H Q=aX (ur H a) (kGT n t σ H Q):=rfl
theorem dY{K:W.Frag}{n:Nat}{t:TGs}{v:V}{σ:St}{H:Hp}{Q:St->Hp->Prop}(h:qGT n t v σ H Q):Lq K n t v σ H Q:=by
 unfold qGT at h;split at h
 ·rename_i a;obtain⟨xs,e,hl,q⟩:=ao h;exact⟨a,xs,rfl,SqT.of (FJ e),hl,q⟩
 ·exact h.elim
theorem Gm:OpR X (compareOp .Is) IX:=Gr
theorem rA:OpR X (compareOp .IsNot) yM:=CQ
def uD(tb:TS)(D:gF):St->Hp->Prop:=λ σ H=>tb D σ H
theorem aD(tb:TS)(D:gF)(σ:St)(H:Hp):uD tb D σ H=tb D σ H:=rfl
def ET(g:TG)(tb:TS)(D:gF)(σ:St)(J:It)(H1:Hp):Prop:=∃ W:Nat->Nat->St->Hp->Prop,(∃ m,W 0 m σ H1)/\∀ i m σ H,W i m σ H →
 (J.stop i H/\D.nx σ H)\/(J.go i H/\∃ N:St->Hp->Prop,(∀ σ' H',N σ' H'->∃ m',m' < m/\W (i+1) m' σ' H')/\∀ x H',J.yld i H x H'->g x σ H' λ σ2 H2=>tb { D with nx:=N,ct:=N,bk:=D.nx } σ2 H2)
theorem GP(wi:TI)(g:TG)(tb:TS)(D:gF)(σ:St)(H:Hp):KU wi g tb D σ H=wi σ H (ET g tb D σ):=rfl
def kR1(R:It->Hp->Prop):List V->Hp->Prop:=λ vs H=>∃ j:Int,vs=[.int j]/\-(2 ^ 62)<=j/\j < 2 ^ 62/\R (Itr 0 j.toNat) H
theorem Kg(R:It->Hp->Prop)(j:Int)(H:Hp):kR1 R [.int j] H=(-(2 ^ 62)<=j/\j < 2 ^ 62/\R (Itr 0 j.toNat) H):=propext ⟨λ ⟨_,e,q⟩=>by cases e;exact q,λ q=>⟨j,rfl,q⟩⟩
theorem D4(ta:TA)(σ:St)(H:Hp)(R:It->Hp->Prop):Fx ta σ H R=ta σ H (kR1 R):=rfl
def yR(K:W.Frag)(a:Addr)(H:Hp)(R:It->Hp->Prop):HO->Prop:=λ o=>match o with
 | .lst _=>R (Itl K a) H
 | .frz _ (.lst _)=>R (Itl K a) H
 | .tup _=>R (Itt K a) H
 | _=>False
theorem xp(K:W.Frag)(a:Addr)(H:Hp)(R:It->Hp->Prop)(xs:List V):yR K a H R (.lst xs)=R (Itl K a) H:=rfl
def ID(K:W.Frag)(R:It->Hp->Prop):VK:=λ x H=>match x with
 | .ref a=>aX (H a) (yR K a H R)
 | _=>False
theorem Hs(K:W.Frag)(R:It->Hp->Prop)(a:Addr)(H:Hp):ID K R (.ref a) H=aX (H a) (yR K a H R):=rfl
def Lp(K:W.Frag)(tl:TE):TI:=λ σ H R=>tl σ H (ID K R)
theorem HP(K:W.Frag)(tl:TE)(σ:St)(H:Hp)(R:It->Hp->Prop):Lp K tl σ H R=tl σ H (ID K R):=rfl
theorem FW{tg l:Expr}{tl:TE}(hl:PE X l tl):PI X tg l (Lp X.K tl):=by
 intro pins s σ H R I h;refine thn (hl pins s σ H _ I h) λ v s1 ⟨x,H1,I1,r1,q1⟩=>?_;unfold ID at q1;split at q1
 ·rename_i a;cases r1;obtain⟨o,e,q⟩:=ao q1
  have fp:∀ b∈[s1.heap.objs.size],kO X pins H1 b:=λ b hb=>by
   have e:b=s1.heap.objs.size:=by simpa using hb
   subst e;exact I1.fpOk (Mb _) (I1.hok.fresh (Mb _))
  have lst:∀ xs,SqL X.K H1 a xs->R (Itl X.K a) H1->wpAny (model X.prog X.w) X.A (pyIter (.ref a)) (PIE X pins σ tg R) X.xe s1:=λ xs hq q=>by
   obtain⟨its,rv,p,hz⟩:=I1.list hq;refine NT p.isList ?_;exact⟨s1.heap.objs.size,[s1.heap.objs.size],_,_,H1,rfl,I1.kept (t':=s1.toks) λ b o e=>Ma _ e,wt a _,⟨_,Mn _ rfl,rfl,rfl⟩,fp,q⟩
  unfold yR at q;split at q
  ·exact lst _ (SqL.of e) q
  ·exact lst _ (.inl (.inr ⟨_,e⟩)) q
  ·obtain⟨its,rv,p,hz⟩:=I1.tuple (SqT.of e);refine wpAny_pyIter_tuple (show s1.heap.IsTuple a its.toArray from p) ?_;exact⟨s1.heap.objs.size,[s1.heap.objs.size],_,_,H1,rfl,I1.kept (t':=s1.toks) λ b o e=>Ma _ e,sr a _,⟨_,Mn _ rfl,rfl,rfl⟩,fp,q⟩
  ·exact q.elim
 ·exact q1.elim
theorem ia{lo:Int}{n:Nat}{g:TG}{tb:TS}{nx:St->Hp->Prop}{rt:VK}{bk ct:St->Hp->Prop}{σ:St}{H:Hp}(Pv:Nat->St->Hp->Prop)(h0:Pv 0 σ H)
  (hs:∀ i σ H,i < n->Pv i σ H->g (.int (lo+i)) σ H (uD tb ⟨Pv (i+1),rt,nx,Pv (i+1)⟩)) (hd:∀ σ H,Pv n σ H->nx σ H):ET g tb ⟨nx,rt,bk,ct⟩ σ (Itr lo n) H:=x6 Pv h0 hs hd
theorem aZ{K:W.Frag}{a:Addr}{xs:List V}{g:TG}{tb:TS}{nx:St->Hp->Prop}{rt:VK}{bk ct:St->Hp->Prop}{σ:St}{H:Hp}(Pv:Nat->St->Hp->Prop)(h0:Pv 0 σ H)(hl:∀ i σ H,i<=xs.length->Pv i σ H->H a=some (.lst xs))
  (hs:∀ i x σ H,xs[i]? = some x->Pv i σ H->g x σ H (uD tb ⟨Pv (i+1),rt,nx,Pv (i+1)⟩)) (hd:∀ σ H,Pv xs.length σ H->nx σ H):ET g tb ⟨nx,rt,bk,ct⟩ σ (Itl K a) H:=AD (xs:=xs) Pv h0 (λ i σ H hi p=>SqL.of (hl i σ H hi p)) hs hd
def kWh(tb:TS)(nx:St->Hp->Prop)(rt:VK)(Pv:Nat->St->Hp->Prop)(m:Nat)(σ:St):Bool->Hp->Prop:=λ b H=>if b=true then tb ⟨λ σ' H'=>∃ m',m' < m/\Pv m' σ' H',rt,nx,λ σ' H'=>∃ m',m' < m/\Pv m' σ' H'⟩ σ H else nx σ H
theorem Kd(tb:TS)(nx:St->Hp->Prop)(rt:VK)(Pv:Nat->St->Hp->Prop)(m:Nat)(σ:St)(b:Bool)(H:Hp):kWh tb nx rt Pv m σ b H=(if b=true then tb ⟨λ σ' H'=>∃ m',m' < m/\Pv m' σ' H',rt,nx,λ σ' H'=>∃ m',m' < m/\Pv m' σ' H'⟩ σ H else nx σ H):=rfl
theorem Ci{c:TT}{tb:TS}{nx:St->Hp->Prop}{rt:VK}{bk ct:St->Hp->Prop}{σ:St}{H:Hp}(Pv:Nat->St->Hp->Prop)(m0:Nat)(h0:Pv m0 σ H)
  (mono:∀ σ H Q Q',(∀ b H1,Q b H1->Q' b H1)->c σ H Q->c σ H Q')
  (hs:∀ m σ H,Pv m σ H->c σ H (kWh tb nx rt Pv m σ)):uK c tb ⟨nx,rt,bk,ct⟩ σ H:=by
 refine⟨Pv,⟨m0,h0⟩,λ m σ H p=>mono σ H _ _ (λ b H1 q=>?_) (hs m σ H p)⟩;unfold kWh at q
 cases b with
 | true=>exact⟨_,λ σ' H' z=>z,q⟩
 | false=>exact q
end
theorem zS(sp:Sp)(dvs:List V)(E:St->XK)(t:TA)(σ:St)(H:Hp)(Q:VK):A9 sp dvs E t σ H Q=t σ H (uC sp dvs (E σ) Q):=rfl
def La(th:Value->Option Addr->TS)(D:gF):St->XK:=λ σ cls d H=>th cls d D σ H
theorem Hg(th:Value->Option Addr->TS)(D:gF)(σ:St)(cls:Value)(d:Option Addr)(H:Hp):La th D σ cls d H=th cls d D σ H:=rfl
theorem GJ(tb:(St->XK)->TS)(th:Value->Option Addr->TS)(D:gF)(σ:St)(H:Hp):KP tb th D σ H=tb (La th D) D σ H:=rfl
def Bv(C:Addr)(E:XK):List V->Hp->Prop:=λ vs H=>vs.length<=sizeLine/\E (.ref C) none H
theorem zX(C:Addr)(E:XK)(vs:List V)(H:Hp):Bv C E vs H=(vs.length<=sizeLine/\E (.ref C) none H):=rfl
theorem zQ(C:Addr)(E:St->XK)(t:TA)(D:gF)(σ:St)(H:Hp):A7 C E t D σ H=t σ H (Bv C (E σ)):=rfl
def B7(i:Nat)(tb:TS)(D:gF):St->Hp->Prop:=λ σ H=>tb D σ H
theorem DH(i:Nat)(tb:TS)(D:gF)(σ:St)(H:Hp):B7 i tb D σ H=tb D σ H:=rfl
theorem Kv(i:Nat)(nx:St->Hp->Prop)(rt:VK)(bk ct:St->Hp->Prop):gF.del i ⟨nx,rt,bk,ct⟩=⟨BM i nx,rt,BM i bk,BM i ct⟩:=rfl
theorem Hw(i:Nat)(nx:St->Hp->Prop)(σ:St)(H:Hp):BM i nx σ H=JB i σ H nx:=rfl
theorem Ab{a0 a1 a2:Option V}{a:Option V}{σ:St}{H:Hp}{Q:St->Hp->Prop}:JB 3 (a0::a1::a2::a::σ) H Q=Q (a0::a1::a2::none::σ) H:=rfl
theorem o5(H:Hp):uH H none=True:=rfl
theorem o4(H:Hp)(dx:Addr):uH H (some dx)=aX (H dx) kXd:=by
 refine propext ⟨λ ⟨o,h,k⟩=>by rw [h];exact k,λ h=>?_⟩;obtain⟨o,e,k⟩:=ao h;exact⟨o,e,k⟩
theorem Kc(fs:List (Str × V)):kXd (.xd fs)=True:=rfl
def IW:Value->Option Addr
 | .ref C=>some C
 | _=>none
theorem zr(C:Addr):IW (.ref C)=some C:=rfl
def IJ:V->Option Value
 | .ref C=>some (.ref C)
 | .ty n=>some (.type n)
 | _=>none
theorem AI(C:Addr):IJ (.ref C)=some (.ref C):=rfl
theorem EF(n:String):IJ (.ty n)=some (.type n):=rfl
def kE4(H:Hp)(Q:VK):Bool->Prop:=λ b=>Q (.bl b) H
theorem B5(H:Hp)(Q:VK)(b:Bool):kE4 H Q b=Q (.bl b) H:=rfl
def kE3(K:W.Frag)(C:Addr)(H:Hp)(Q:VK):Value->Prop:=λ u=>aX (W.kitOne K (.ref C) u) (kE4 H Q)
theorem Ko(K:W.Frag)(C:Addr)(H:Hp)(Q:VK)(u:Value):kE3 K C H Q u=aX (W.kitOne K (.ref C) u) (kE4 H Q):=rfl
def kE2(K:W.Frag)(oe:Obj)(D:V)(H:Hp)(Q:VK):Addr->Prop:=λ C=>uH H oe.dict/\(∃ vs,oe.data=.fields vs)/\r9 K C/\aX (IJ D) (kE3 K C H Q)
theorem Kp(K:W.Frag)(oe:Obj)(D:V)(H:Hp)(Q:VK)(C:Addr):kE2 K oe D H Q C=(uH H oe.dict/\(∃ vs,oe.data=.fields vs)/\r9 K C/\aX (IJ D) (kE3 K C H Q)):=rfl
def kE1(K:W.Frag)(D:V)(H:Hp)(Q:VK):HO->Prop:=λ o=>match o with
 | .frz oe (.ext _)=>aX (IW oe.cls) (kE2 K oe D H Q)
 | _=>False
theorem Kq(K:W.Frag)(D:V)(H:Hp)(Q:VK)(oe:Obj):kE1 K D H Q (iK oe)=aX (IW oe.cls) (kE2 K oe D H Q):=rfl
def Iv(K:W.Frag)(xs:List V)(H:Hp)(Q:VK):Prop:=match xs with
 | [.ref e,D]=>aX (H e) (kE1 K D H Q)
 | _=>False
theorem G9(K:W.Frag)(e:Addr)(D:V)(H:Hp)(Q:VK):Iv K [.ref e,D] H Q=aX (H e) (kE1 K D H Q):=rfl
theorem ye{X:Cx}:bO X (.builtin "isinstance") (Iv X.K):=by
 refine yk.mono λ xs H Q h=>?_;unfold Iv at h;split at h
 ·rename_i e D;obtain⟨o,h1,h⟩:=ao h;unfold kE1 at h;split at h
  ·rename_i oe φ;obtain⟨C,h2,h⟩:=ao h;obtain⟨h3,h4,h5,h⟩:=h;obtain⟨u,h6,h⟩:=ao h;obtain⟨b,h7,h⟩:=ao h
   have hc:oe.cls=.ref C:=by
    cases q:oe.cls with
    | ref C'=>rw [q] at h2;cases h2;rfl
    | _=>rw [q] at h2;cases h2
   refine⟨e,oe,C,D,b,rfl,⟨_,h1⟩,hc,h3,h4,h5,⟨u,?_,h7⟩,h⟩
   cases D with
   | ref a=>cases h6;rfl
   | ty n=>cases h6;rfl
   | _=>cases h6
  ·exact h.elim
 ·exact h.elim
def kC3(D:Addr)(ys:List V)(N:List V->Hp->Prop):VK:=λ y H=>H D=some (.lst ys)/\ys.length < sizeLine/\N (ys++[y]) (upd H D (.lst (ys++[y])))
theorem Ks(D:Addr)(ys:List V)(N:List V->Hp->Prop)(y:V)(H:Hp):kC3 D ys N y H=(H D=some (.lst ys)/\ys.length < sizeLine/\N (ys++[y]) (upd H D (.lst (ys++[y])))):=rfl
def kC2(te:TE)(σ2:St)(D:Addr)(ys:List V)(N:List V->Hp->Prop):Bool->Hp->Prop:=λ b H=>if b=true then te σ2 H (kC3 D ys N) else N ys H
theorem Kt(te:TE)(σ2:St)(D:Addr)(ys:List V)(N:List V->Hp->Prop)(b:Bool)(H:Hp):kC2 te σ2 D ys N b H=(if b=true then te σ2 H (kC3 D ys N) else N ys H):=rfl
def kC1(k:Nat)(tt:TT)(te:TE)(σ:St)(D:Addr)(ys:List V)(N:List V->Hp->Prop):St->Hp->Prop:=λ σ2 H=>(∃ vs:St,vs.length=k/\σ2=vs++σ)/\tt σ2 H (kC2 te σ2 D ys N)
theorem DY(tt:TT)(te:TE)(σ:St)(D:Addr)(ys:List V)(N:List V->Hp->Prop)(a:Option V)(H:Hp):kC1 1 tt te σ D ys N (a::σ) H=tt (a::σ) H (kC2 te (a::σ) D ys N):=propext ⟨λ h=>h.2,λ h=>⟨⟨[a],rfl,rfl⟩,h⟩⟩
theorem Gx(σ:St)(H:Hp)(Q:Bool->Hp->Prop):KO σ H Q=Q true H:=rfl
def pJ(k:Nat)(g:TG)(tt:TT)(te:TE)(σ:St)(Q:VK):It->Hp->Prop:=λ J H1=>∀ D,H1 D=none->∃ W:Nat->Nat->List V->Hp->Prop,(∃ m,W 0 m [] (upd H1 D (.lst [])))/\∀ i m ys H,W i m ys H →
 (J.stop i H/\Q (.ref D) H)\/(J.go i H/\∃ N:List V->Hp->Prop,(∀ ys' H',N ys' H'->∃ m',m' < m/\W (i+1) m' ys' H') /\
  ∀ x H',J.yld i H x H'->g x (List.replicate k none++σ) H' (kC1 k tt te σ D ys N))
theorem Dn(k:Nat)(wi:TI)(g:TG)(tt:TT)(te:TE)(σ:St)(H:Hp)(Q:VK):BQ k wi g tt te σ H Q=wi σ H (pJ k g tt te σ Q):=rfl
def Fs(i:Nat)(σ:St)(nx:St->Hp->Prop):VK:=λ x H=>dE i x σ H nx
theorem DI(i:Nat)(σ:St)(nx:St->Hp->Prop)(x:V)(H:Hp):Fs i σ nx x H=dE i x σ H nx:=rfl
theorem Dh(i:Nat)(te:TE)(nx:St->Hp->Prop)(rt:VK)(bk ct:St->Hp->Prop)(σ:St)(H:Hp):E3 i te ⟨nx,rt,bk,ct⟩ σ H=te σ H (Fs i σ nx):=rfl
section
variable {k:Nat}{g:TG}{tt:TT}{te:TE}{σ:St}{Q:VK}{H:Hp}{K:PySem.W.Frag}
theorem EE{J:It}{n:Nat}{yl:Nat->V->Prop}(Pv:Addr->Nat->List V->Hp->Prop)(h0:∀ D,H D=none->Pv D 0 [] (upd H D (.lst [])))
  (hgo:∀ D i ys H,i < n->Pv D i ys H->J.go i H/\∀ x H',J.yld i H x H'->H'=H/\yl i x) (hst:∀ D ys H,Pv D n ys H->J.stop n H)
  (hs:∀ D i x ys H,i < n->yl i x->Pv D i ys H->g x (List.replicate k none++σ) H (kC1 k tt te σ D ys (Pv D (i+1)))) (hd:∀ D ys H,Pv D n ys H->Q (.ref D) H):pJ k g tt te σ Q J H:=by
 intro D hD;refine⟨λ i m ys H=>m=n - i/\i<=n/\Pv D i ys H,⟨n,by simp,MC _,h0 D hD⟩,?_⟩;rintro i m ys H' ⟨rfl,hi,p⟩
 by_cases hlt:i < n
 ·obtain⟨go,y⟩:=hgo D i ys H' hlt p;refine .inr ⟨go,Pv D (i+1),λ ys' H2 p'=>⟨n - (i+1),by omega,rfl,hlt,p'⟩,λ x H2 z=>?_⟩;obtain⟨e,z2⟩:=y x H2 z;subst e;exact hs D i x ys _ hlt z2 p
 ·have e:i=n:=by omega
  subst e;exact .inl ⟨hst D ys H' p,hd D ys H' p⟩
theorem AH{lo:Int}{n:Nat}(Pv:Addr->Nat->List V->Hp->Prop)(h0:∀ D,H D=none->Pv D 0 [] (upd H D (.lst [])))
  (hs:∀ D i ys H,i < n->Pv D i ys H->g (.int (lo+i)) (List.replicate k none++σ) H (kC1 k tt te σ D ys (Pv D (i+1)))) (hd:∀ D ys H,Pv D n ys H->Q (.ref D) H):pJ k g tt te σ Q (Itr lo n) H:=by
 refine EE (n:=n) (yl:=λ i x=>x=.int (lo+i)) Pv h0 (λ D i ys H hi p=>?_) (λ D ys H p=>Mb n) (λ D i x ys H hi e p=>by subst e;exact hs D i ys H hi p) hd;exact⟨hi,λ x H' y=>⟨y.1,y.2⟩⟩
end
def aR{α:Type}:List (Option α)->Option (List α)
 | []=>some []
 | o::r=>o.bind λ x=>(aR r).map λ xs=>x::xs
def yI(f:V->Option PyData):HO->Option PyData
 | .lst xs=>(aR (xs.map f)).map .list
 | .tup xs=>(aR (xs.map f)).map .tuple
 | _=>none
def iL(H:Hp)(f:V->Option PyData):V->Option PyData
 | .non=>some .none
 | .bl b=>some (.bool b)
 | .int i=>some (.int i)
 | .str z=>if PyData.strOk z=true then some (.str z) else none
 | .ref p=>(H p).bind (yI f)
 | _=>none
def hG(H:Hp):Nat->V->Option PyData
 | 0,_=>none
 | n+1,x=>iL H (hG H n) x
def noD:V->Option PyData:=λ _=>none
theorem HS(H:Hp)(x:V):hG H 6 x=iL H (iL H (iL H (iL H (iL H (iL H noD))))) x:=rfl
theorem sV(H:Hp)(n:Nat)(z:Str):hG H (n+1) (.str z)=if PyData.strOk z=true then some (.str z) else none:=rfl
theorem sX(H:Hp)(n:Nat)(p:Addr):hG H (n+1) (.ref p)=(H p).bind (yI (hG H n)):=rfl
theorem tm(H:Hp)(f:V->Option PyData)(i:Int):iL H f (.int i)=some (.int i):=rfl
theorem sY(H:Hp)(f:V->Option PyData)(z:Str):iL H f (.str z)=if PyData.strOk z=true then some (.str z) else none:=rfl
theorem sZ(H:Hp)(f:V->Option PyData)(p:Addr):iL H f (.ref p)=(H p).bind (yI f):=rfl
theorem k8(f:V->Option PyData)(xs:List V):yI f (.lst xs)=(aR (xs.map f)).map .list:=rfl
theorem k7(f:V->Option PyData)(xs:List V):yI f (.tup xs)=(aR (xs.map f)).map .tuple:=rfl
theorem ni{α:Type}:aR ([]:List (Option α))=some []:=rfl
theorem kJ{α:Type}(x:α)(r:List (Option α)):aR (some x::r)=(aR r).map λ xs=>x::xs:=rfl
theorem dD(H:Hp)(f:V->Option PyData):∀ ns:List Int,aR ((ns.map V.int).map (iL H f))=some (ns.map PyData.int)
 | []=>rfl
 | i::r=>by
  show (aR ((r.map V.int).map (iL H f))).map _=_
  rw [dD H f r];rfl
theorem mP{K:W.Frag}{H:Hp}{n:Nat}(ih:∀ x d,hG H n x=some d->lN K H x d/\d.canLay0=true/\d.depth<=n):∀ (xs:List V) (ds:List PyData),aR (xs.map (hG H n))=some ds->i7 K H xs ds/\PyData.canLayAll0 ds=true/\PyData.depthAll ds<=n
 | [],ds,h=>by cases h;exact⟨.nil,rfl,MC _⟩
 | x::xs,ds,h=>by
  have h':(hG H n x).bind (λ d=>(aR (xs.map (hG H n))).map λ ds=>d::ds)=some ds:=h
  cases e:hG H n x with
  | none=>rw [e] at h';cases h'
  | some d=>
   rw [e] at h';have h2:(aR (xs.map (hG H n))).map (λ ds=>d::ds)=some ds:=h'
   cases e2:aR (xs.map (hG H n)) with
   | none=>rw [e2] at h2;cases h2
   | some es=>
    rw [e2] at h2;cases h2;obtain⟨a,b,c⟩:=ih x d e;obtain⟨a',b',c'⟩:=mP ih xs es e2;exact⟨.cons a a',by simp [PyData.canLayAll0,b,b'],by simp only [PyData.depthAll];omega⟩
theorem p9{K:W.Frag}{H:Hp}:∀ (n:Nat) (x:V) (d:PyData),hG H n x=some d->lN K H x d/\d.canLay0=true/\d.depth<=n
 | 0,x,d,h=>by cases h
 | n+1,x,d,h=>by
  cases x with
  | non=>cases h;exact⟨.non,rfl,MC _⟩
  | bl b=>cases h;exact⟨.bl b,rfl,MC _⟩
  | int i=>cases h;exact⟨.int i,rfl,MC _⟩
  | str z=>
   rw [sV] at h;split at h
   ·rename_i hz;cases h;exact⟨.str z,by simpa [PyData.canLay0] using hz,MC _⟩
   ·cases h
  | ref p=>
   rw [sX] at h
   cases e:H p with
   | none=>rw [e] at h;cases h
   | some o=>
    rw [e] at h;have h':yI (hG H n) o=some d:=h
    cases o with
    | lst xs=>
     rw [k8] at h'
     cases e2:aR (xs.map (hG H n)) with
     | none=>rw [e2] at h';cases h'
     | some ds=>
      rw [e2] at h';cases h';obtain⟨a,b,c⟩:=mP (K:=K) (p9 n) xs ds e2;exact⟨.lst (SqL.of e) a,by simpa [PyData.canLay0] using b,by simp only [PyData.depth];omega⟩
    | tup xs=>
     rw [k7] at h'
     cases e2:aR (xs.map (hG H n)) with
     | none=>rw [e2] at h';cases h'
     | some ds=>
      rw [e2] at h';cases h';obtain⟨a,b,c⟩:=mP (K:=K) (p9 n) xs ds e2;exact⟨.tup (SqT.of e) a,by simpa [PyData.canLay0] using b,by simp only [PyData.depth];omega⟩
    | _=>cases h'
  | _=>cases h
theorem eB{K:W.Frag}{H:Hp}{n:Nat}{x:V}{d:PyData}(hn:n<=64)(h:hG H n x=some d):lN K H x d/\SeqAt.shaped d=true:=by
 obtain⟨a,b,c⟩:=p9 (K:=K) n x d h;refine⟨a,?_⟩;unfold SeqAt.shaped;rw [b,decide_eq_true (show d.depth<=64 by omega)];rfl
def Jp(neg:Bool)(H:Hp)(Q:VK)(d:PyData):PyData->Prop:=λ e=>Q (.bl (if neg=true then !PyData.eqv d e else PyData.eqv d e)) H
theorem mJ(H:Hp)(Q:VK)(d e:PyData):Jp true H Q d e=Q (.bl (!PyData.eqv d e)) H:=rfl
def IF(neg:Bool)(y:V)(H:Hp)(Q:VK):PyData->Prop:=λ d=>aX (hG H 6 y) (Jp neg H Q d)
theorem u0(neg:Bool)(y:V)(H:Hp)(Q:VK)(d:PyData):IF neg y H Q d=aX (hG H 6 y) (Jp neg H Q d):=rfl
def qEq(neg:Bool):R2:=λ x y H Q=>if ER x y=true then Q (.bl (if neg=true then !decide (x=y) else decide (x=y))) H else aX (hG H 6 x) (IF neg y H Q)
theorem bS(neg:Bool)(p:Addr)(y:V)(H:Hp)(Q:VK):qEq neg (.ref p) y H Q=aX (hG H 6 (.ref p)) (IF neg y H Q):=by
 show (if ER (.ref p) y=true then _ else _)=_
 rw [Mw (by cases y<;>exact Mj)]
theorem bJ(neg:Bool)(p:Addr)(x:V)(H:Hp)(Q:VK):qEq neg x (.ref p) H Q=aX (hG H 6 x) (IF neg (.ref p) H Q):=by
 show (if ER x (.ref p)=true then _ else _)=_
 rw [Mw (by cases x<;>exact Mj)]
theorem nh(i:Int)(j:Int)(H:Hp)(Q:VK):qEq false (V.int i) (V.int j) H Q=Q (.bl (decide (i=j))) H:=by
 have e:decide (((V.int i):V)=(V.int j))=decide (i=j):=by simp
 show Q (.bl (if false=true then !decide ((V.int i)=(V.int j)) else decide ((V.int i)=(V.int j)))) H=_
 rw [e];rfl
theorem nc(i:Int)(j:Int)(H:Hp)(Q:VK):qEq true (V.int i) (V.int j) H Q=Q (.bl (!decide (i=j))) H:=by
 have e:decide (((V.int i):V)=(V.int j))=decide (i=j):=by simp
 show Q (.bl (if true=true then !decide ((V.int i)=(V.int j)) else decide ((V.int i)=(V.int j)))) H=_
 rw [e];rfl
section
variable {X:Cx}
theorem iA(hu:X.A.units+64 < cLine):OpR X (compareOp .Eq) (qEq false):=by
 refine(JO.or (Gs hu)).mono λ x y H Q h=>?_;unfold qEq at h;split at h
 ·rename_i hs;exact .inl ⟨hs,h⟩
 obtain⟨d,e1,h⟩:=ao h;obtain⟨e,e2,h⟩:=ao h;obtain⟨a,b⟩:=eB (K:=X.K) (by decide) e1;obtain⟨a',b'⟩:=eB (K:=X.K) (by decide) e2;exact .inr ⟨d,e,a,a',b,b',h⟩
theorem bI(hu:X.A.units+64 < cLine):OpR X (compareOp .NotEq) (qEq true):=by
 refine(JL.or (Gq hu)).mono λ x y H Q h=>?_;unfold qEq at h;split at h
 ·rename_i hs;exact .inl ⟨hs,h⟩
 obtain⟨d,e1,h⟩:=ao h;obtain⟨e,e2,h⟩:=ao h;obtain⟨a,b⟩:=eB (K:=X.K) (by decide) e1;obtain⟨a',b'⟩:=eB (K:=X.K) (by decide) e2;exact .inr ⟨d,e,a,a',b,b',h⟩
end
theorem vR(i j:Int):PyData.eqv (.int i) (.int j)=decide (i=j):=Bool.beq_eq_decide_eq i j
theorem EB(i j:Str):PyData.eqv (.str i) (.str j)=(i == j):=rfl
theorem x9(xs ys:List PyData):PyData.eqv (.tuple xs) (.tuple ys)=PyData.eqvAll xs ys:=by simp only [PyData.eqv]
theorem i4(xs ys:List PyData):PyData.eqv (.list xs) (.list ys)=PyData.eqvAll xs ys:=by simp only [PyData.eqv]
theorem ir:PyData.eqvAll [] []=true:=by simp only [PyData.eqvAll]
theorem gA(x y:PyData)(xs ys:List PyData):PyData.eqvAll (x::xs) (y::ys)=(PyData.eqv x y && PyData.eqvAll xs ys):=by simp only [PyData.eqvAll]
theorem rM(x:PyData)(xs:List PyData):PyData.eqvAll (x::xs) []=false:=by simp only [PyData.eqvAll]
theorem AF(x:PyData)(xs:List PyData):PyData.eqvAll [] (x::xs)=false:=by simp only [PyData.eqvAll]
theorem gz:∀ ns ms:List Int,PyData.eqvAll (ns.map PyData.int) (ms.map PyData.int)=decide (ns=ms)
 | [],[]=>by rw [map_nil,ir];rfl
 | [],_::_=>by rw [map_nil,Nj,AF];rfl
 | _::_,[]=>by rw [map_nil,Nj,rM];rfl
 | i::r,j::t=>by
  rw [Nj,Nj,gA,vR,gz r t]
  by_cases h:i=j<;>by_cases h2:r=t<;>simp [h,h2]
theorem EL(i j:Int):JG i j=(0 < j/\j < 1073741824):=rfl
theorem Ik(i j:Int)(h:-18446744073709551616 < i)(h':i < 18446744073709551616):uf i j=True:=eq_true (.inl ⟨by omega,by omega⟩)
theorem EK(j:Int):JF 10 j=(0<=j/\j<=1000000):=propext ⟨λ h=>⟨h.1,h.2.1⟩,λ h=>⟨h.1,h.2,by decide⟩⟩
theorem Kw(n:Nat)(h:n<=1000):(n<=sizeLine)=True:=eq_true (NK (wy h))
theorem Ext.of{H H':Hp}(h:∀ a,(H a).isSome=true->H' a=H a):Ext H H':=⟨h,λ K a xs q=>by
 have s:kB H H':=λ b o e=>(h b (by rw [e];rfl)).trans e;exact s.seq q⟩
theorem Ext.same{H H':Hp}(h:Ext H H'):kB H H':=λ b o e=>(h.1 b (by rw [e];rfl)).trans e
theorem kB.ext{H H':Hp}(h:kB H H'):Ext H H':=Ext.of λ a q=>by
 cases e:H a with
 | none=>rw [e] at q;cases q
 | some o=>exact h a o e
theorem Ext.refl(H:Hp):Ext H H:=(kB.refl H).ext
theorem Ext.trans{H H1 H2:Hp}(a:Ext H H1)(b:Ext H1 H2):Ext H H2:=(a.same.trans b.same).ext
theorem Ext.new{H:Hp}{p:Addr}{o:HO}(h:H p=none):Ext H (upd H p o):=(zm h).ext
theorem Ext.put{H H1:Hp}{p:Addr}{o:HO}(a:Ext H H1)(h:H p=none):Ext H (upd H1 p o):=kB.ext λ b u e=>by
 rw [ae (ah e h)];exact a.same b u e
theorem Ext.free{H H1:Hp}{p:Addr}(a:Ext H H1)(h:H1 p=none):H p=none:=a.same.free h
theorem Ext.at{H H1:Hp}{p:Addr}{o:HO}(a:Ext H H1)(h:H p=some o):H1 p=some o:=a.same _ _ h
theorem CP{xs:List V}{i:Int}{k:V->Prop}(h0:0<=i)(h1:i < xs.length)(h:∀ v∈xs,k v):aX (atI xs i) k:=by
 obtain⟨v,e,m⟩:=BH xs i h0 h1;rw [e];exact h v m
theorem LV(CX:CXT)(P:Program)(w:World)(K:W.Frag)(mg:Str->Option Value)(base:Heap)(N:List Str)(qual:Str)(scope:Scope)(f:Addr)(cd:Value)(A:Around)(outer:List Env)(s:Shared)(H:Hp)(E:XK):(r6 CX P w K mg base N qual scope f cd A outer s H E).K=K:=rfl
theorem cP{X:Cx}{K:W.Frag}(h:X.K=K):bO X (.builtin "isinstance") (Iv K):=h ▸ ye
theorem rO{K:W.Frag}{C:Addr}(h:W.hasDictIn K C=true):(W.clsIn K C).isSome=true:=by
 obtain⟨cd,hc,_⟩:=W.any_some h;rw [hc];rfl
theorem vO{K:W.Frag}{A C:Addr}(h1:W.hasDictIn K C=true)(h2:W.typeIn K (.ref C)=some (.type "type"))(h3:W.subIn K (.ref A) (.ref C)=some true):W.kitOne K (.ref A) (.ref C)=some true:=by
 unfold W.kitOne;split
 ·rfl
 ·show (if _ then _ else _)=_
  rw [rO h1,h2,My (by decide),h3]
theorem Bu{K:W.Frag}{A C:Addr}(h0:(A == C)=false)(h1:W.hasDictIn K C=true)(h2:W.typeIn K (.ref C)=some (.type "type"))(h3:W.subIn K (.ref A) (.ref C)=some false):W.kitOne K (.ref A) (.ref C)=some false:=by
 unfold W.kitOne;rw [if_neg (by intro z;have e:A=C:=Value.ref.inj (beq_iff_eq.mp z);rw [e] at h0;simp at h0)]
 show (if _ then _ else _)=_
 rw [rO h1,h2,My (by decide),h3]
theorem Bt{K:W.Frag}{A:Addr}{n:String}{b:Bool}(h1:W.kitMeta n=true)(h3:W.subIn K (.ref A) (.type n)=some b):W.kitOne K (.ref A) (.type n)=some b:=by
 unfold W.kitOne;rw [if_neg (by intro z;have e:=beq_iff_eq.mp z;cases e)]
 show (if _ then _ else _)=_
 rw [My h1,h3]
def isW(H:Hp):V->Option Bool
 | .int _=>some true
 | .bl _=>some false
 | .non=>some false
 | .str _=>some false
 | .ref p=>((H p).bind tyO).map λ _=>false
 | _=>none
theorem As(H:Hp)(i:Int):isW H (.int i)=some true:=rfl
theorem Ar(H:Hp)(p:Addr):isW H (.ref p)=((H p).bind tyO).map λ _=>false:=rfl
theorem vP{H:Hp}{p:Addr}{b:Bool}(h:isW H (.ref p)=some b):b=false/\∃ o,H p=some o/\(tyO o=some "list" \/ tyO o=some "tuple" \/ tyO o=some "dict"):=by
 rw [Ar] at h
 cases e:H p with
 | none=>rw [e] at h;cases h
 | some o=>
  rw [e] at h;have h':(tyO o).map (λ _=>false)=some b:=h
  cases e2:tyO o with
  | none=>rw [e2] at h';cases h'
  | some t=>
   rw [e2] at h';cases h';refine⟨rfl,o,rfl,?_⟩
   cases o with
   | lst xs=>exact .inl rfl
   | tup xs=>exact .inr (.inl rfl)
   | dK xs=>exact .inr (.inr rfl)
   | dT xs=>exact .inr (.inr rfl)
   | frz ob u=>cases u with
    | lst xs=>exact .inl rfl
    | _=>cases e2
   | _=>cases e2
def ME(t:TE):Prop:=∀ σ H (Q Q':VK),(∀ v H,Q v H->Q' v H)->t σ H Q->t σ H Q'
def MT(t:TT):Prop:=∀ σ H (Q Q':Bool->Hp->Prop),(∀ b H,Q b H->Q' b H)->t σ H Q->t σ H Q'
def MR(r:R2):Prop:=∀ x y H (Q Q':VK),(∀ v H,Q v H->Q' v H)->r x y H Q->r x y H Q'
theorem jw{α:Type}{o:Option α}{k k':α->Prop}(m:∀ x,k x->k' x)(h:aX o k):aX o k':=by
 obtain⟨x,e,q⟩:=ao h;rw [e];exact m x q
theorem Bl{i:Nat}:ME (Ip i):=λ σ H Q Q' m ⟨v,e,q⟩=>⟨v,e,m _ _ q⟩
theorem LK{v:V}:ME (tC v):=λ σ H Q Q' m q=>m _ _ q
theorem JW{r:R2}{a b:TE}(hr:MR r)(ha:ME a)(hb:ME b):ME (tOp r a b):=λ σ H Q Q' m q=>ha σ H _ _ (λ _ _ q=>hb σ _ _ _ (λ _ _ q=>hr _ _ _ _ _ m q) q) q
theorem zM:MR yM:=λ x y H Q Q' m ⟨e,q⟩=>⟨e,m _ _ q⟩
theorem vL{t:TE}(h:ME t):MT (yK t):=λ σ H Q Q' m q=>h σ H _ _ (λ _ _ ⟨k,e,q⟩=>⟨k,e,m _ _ q⟩) q
theorem Cg{c:TT}{tb:TS}{nx:St->Hp->Prop}{rt:VK}{bk ct:St->Hp->Prop}{σ:St}{H:Hp}(mono:MT c)(Pv:Nat->St->Hp->Prop)(m0:Nat)(h0:Pv m0 σ H)
  (hs:∀ m σ H,Pv m σ H->c σ H (kWh tb nx rt Pv m σ)):uK c tb ⟨nx,rt,bk,ct⟩ σ H:=Ci Pv m0 h0 (λ σ H Q Q'=>mono σ H Q Q') hs
theorem rK:∀ {ns ms:List Int},ns.map V.int=ms.map V.int->ns=ms
 | [],[],_=>rfl
 | [],_::_,h=>by cases h
 | _::_,[],h=>by cases h
 | i::r,j::t,h=>by
  simp only [Nj,List.cons.injEq,V.int.injEq] at h;rw [h.1,rK h.2]
def lP(F:List Int->Prop):List V->Prop:=λ xs=>∃ ns,xs=ns.map V.int/\F ns
theorem DO(F:List Int->Prop)(ns:List Int):lP F (ns.map V.int)=F ns:=propext ⟨λ ⟨ms,e,h⟩=>by rw [rK e];exact h,λ h=>⟨ns,rfl,h⟩⟩
theorem AO(i j:Int)(h:i.natAbs < 2 ^ 256)(h':j.natAbs < 2 ^ 256):Ce i j=True:=eq_true ⟨h,h'⟩
def nB(o:HO)(H:Hp)(Q:VK):Prop:=∀ (p:Addr) (H':Hp),H p=none->Ext H H'->H' p=some o->Q (.ref p) H'
theorem nB.to{o:HO}{H:Hp}{Q:VK}(h:nB o H Q):∀ p,H p=none->Q (.ref p) (upd H p o):=λ p hp=>h p _ hp (Ext.new hp) ag
def kQT(Q:VK):List V->Hp->Prop:=λ xs H=>xs.length<=sizeLine/\nB (.tup xs) H Q
theorem Kh(Q:VK)(xs:List V)(H:Hp):kQT Q xs H=(xs.length<=sizeLine/\nB (.tup xs) H Q):=rfl
def kQL(Q:VK):List V->Hp->Prop:=λ xs H=>xs.length<=sizeLine/\nB (.lst xs) H Q
theorem Ki(Q:VK)(xs:List V)(H:Hp):kQL Q xs H=(xs.length<=sizeLine/\nB (.lst xs) H Q):=rfl
def K1(t:TA):TE:=λ σ H Q=>t σ H (kQT Q)
theorem GW(t:TA)(σ:St)(H:Hp)(Q:VK):K1 t σ H Q=t σ H (kQT Q):=rfl
def K2(t:TA):TE:=λ σ H Q=>t σ H (kQL Q)
theorem G0(t:TA)(σ:St)(H:Hp)(Q:VK):K2 t σ H Q=t σ H (kQL Q):=rfl
section
variable {X:Cx}{es:List Expr}{t:TA}{pos:Pos}
theorem CJ{x1}(h:PA X es t):PE X (.Tuple es x1 pos) (K1 t):=by
 intro pins s σ H Q I hq;refine wpAny_Tuple_spliced (thn (h pos pins s σ H _ I hq) λ us s1 ⟨xs,H1,I1,r,z,q⟩=>⟨by rw [←r.length];exact z,?_⟩);have hf:H1 s1.heap.objs.size=none:=I1.hok.fresh (Mb _);refine⟨.ref s1.heap.objs.size,upd H1 s1.heap.objs.size (.tup xs),I1.laid (t':=s1.toks) (λ b u e=>Ma _ e) (Mb _) ?_,rfl,q.to _ hf⟩;exact⟨z,us,r,⟨_,Mn _ rfl,rfl,_,rfl⟩⟩
theorem CK(h:PA X es t):PE X (.List es pos) (K2 t):=by
 intro pins s σ H Q I hq;refine wpAny_List_spliced (thn (h pos pins s σ H _ I hq) λ us s1 ⟨xs,H1,I1,r,z,q⟩=>⟨by rw [←r.length];exact z,?_⟩);have hf:H1 s1.heap.objs.size=none:=I1.hok.fresh (Mb _);refine⟨.ref s1.heap.objs.size,upd H1 s1.heap.objs.size (.lst xs),I1.laid (t':=s1.toks) (λ b u e=>Ma _ e) (Mb _) ?_,rfl,q.to _ hf⟩;exact⟨z,us,0,r,Mn _ rfl⟩
end
def kN(f:List V->HO)(H:Hp)(Q:VK):List V->Prop:=λ ys=>nB (f ys) H Q
theorem LO(f:List V->HO)(H:Hp)(Q:VK)(ys:List V):kN f H Q ys=nB (f ys) H Q:=rfl
def B3(xs:List V)(H:Hp)(Q:VK):Prop:=match xs with
 | [.ref p]=>aX (cE H p) (kN .lst H Q)
 | _=>False
theorem DC(p:Addr)(H:Hp)(Q:VK):B3 [.ref p] H Q=aX (cE H p) (kN .lst H Q):=rfl
theorem iu{X:Cx}:bO X (.type "list") B3:=tP.mono λ xs H Q h=>by
 unfold B3 at h;split at h
 ·exact jw (λ _ q=>q.to) h
 ·exact h.elim
def IC(xs:List V)(H:Hp)(Q:VK):List V->Prop:=λ ys=>xs.length+ys.length<=sizeLine/\nB (.lst (xs++ys)) H Q
theorem Hk(xs:List V)(H:Hp)(Q:VK)(ys:List V):IC xs H Q ys=(xs.length+ys.length<=sizeLine/\nB (.lst (xs++ys)) H Q):=rfl
def Jl(b:Addr)(H:Hp)(Q:VK):List V->Prop:=λ xs=>aX (aO H b) (IC xs H Q)
theorem Hl(b:Addr)(H:Hp)(Q:VK)(xs:List V):Jl b H Q xs=aX (aO H b) (IC xs H Q):=rfl
def Iy:R2:=λ x y H Q=>match x,y with
 | .ref l,.ref b=>aX (aO H l) (Jl b H Q)
 | _,_=>False
theorem Bp(l b:Addr)(H:Hp)(Q:VK):Iy (.ref l) (.ref b) H Q=aX (aO H l) (Jl b H Q):=rfl
theorem dF{X:Cx}:OpR X (binaryOp .Add) Iy:=Gu.mono λ x y H Q h=>by
 unfold Iy at h;split at h
 ·rw [GV];exact jw (λ _ q=>jw (λ _ q=>⟨q.1,q.2.to⟩) q) h
 ·exact h.elim
theorem PE.mono{X:Cx}{e:Expr}{t t':TE}(h:PE X e t)(m:∀ σ H Q,t' σ H Q->t σ H Q):PE X e t':=λ pins s σ H Q I q=>h pins s σ H Q I (m _ _ _ q)
def Fp:TE:=λ _ H Q=>nB (.dK []) H Q
theorem DD(σ:St)(H:Hp)(Q:VK):Fp σ H Q=nB (.dK []) H Q:=rfl
theorem mG{X:Cx}{pos:Pos}:PE X (.Dict [] [] pos) Fp:=zF.mono λ _ _ _ h=>h.to
section
variable {prog:Program}{w:World}{A:Around}{E:Value->Shared->Prop}{s:Shared}
end
section
variable {X:Cx}{pos:Pos}
end
section
variable {X:Cx}{tg:Expr}
end
theorem jF:∀ (n:Nat) (ns:List Int) (val:Nat->Int),(∀ i,val i=ns.getD i 0)->n<=ns.length->preSum val n=(ns.take n).sum
 | 0,ns,val,h,hl=>by simp [preSum]
 | n+1,ns,val,h,hl=>by
  have ih:=jF n ns val h (by omega)
  have e:ns.take (n+1)=ns.take n++[ns.getD n 0]:=by
   rw [List.take_succ,L8 (by omega)];simp [List.getD,L8 (show n < ns.length by omega)]
  rw [preSum,ih,e,List.sum_append,h];simp
def B6(H:Hp)(Q:VK):List Int->Prop:=λ ns=>Q (.int ns.sum) H
theorem DF(H:Hp)(Q:VK)(ns:List Int):B6 H Q ns=Q (.int ns.sum) H:=rfl
def Ja:List V->Hp->VK->Prop:=λ vs H Q=>match vs with
 | [.ref p]=>aX (aO H p) (lP (B6 H Q))
 | _=>False
theorem GX(p:Addr)(H:Hp)(Q:VK):Ja [.ref p] H Q=aX (aO H p) (lP (B6 H Q)):=rfl
def Jw(F:List Bool->Prop):List V->Prop:=λ xs=>∃ bs,xs=bs.map V.bl/\F bs
theorem vZ:∀ {ns ms:List Bool},ns.map V.bl=ms.map V.bl->ns=ms
 | [],[],_=>rfl
 | [],_::_,h=>by cases h
 | _::_,[],h=>by cases h
 | i::r,j::t,h=>by
  simp only [Nj,List.cons.injEq,V.bl.injEq] at h;rw [h.1,vZ h.2]
theorem HB(F:List Bool->Prop)(bs:List Bool):Jw F (bs.map V.bl)=F bs:=propext ⟨λ ⟨ms,e,h⟩=>by rw [vZ e];exact h,λ h=>⟨bs,rfl,h⟩⟩
def Cc(H:Hp)(Q:VK):List Bool->Prop:=λ bs=>Q (.bl (bs.all id)) H
theorem D0(H:Hp)(Q:VK)(bs:List Bool):Cc H Q bs=Q (.bl (bs.all id)) H:=rfl
def Jf:List V->Hp->VK->Prop:=λ vs H Q=>match vs with
 | [.ref p]=>aX (aO H p) (Jw (Cc H Q))
 | _=>False
theorem Ha(p:Addr)(H:Hp)(Q:VK):Jf [.ref p] H Q=aX (aO H p) (Jw (Cc H Q)):=rfl
section
variable {X:Cx}
theorem gQ(hc:X.calm=true):bO X (.builtin "sum") Ja:=by
 intro pins s σ H vs us Q I r h;unfold Ja at h;split at h
 ·rename_i p;obtain⟨xs,e,ns,rfl,q⟩:=ao h
  cases r with
  | cons r rr=>
   cases rr;cases r;obtain⟨its,rv,pl,hz⟩:=I.list (SqL.of (di e));have hlt:p < s.heap.objs.size:=by obtain⟨_,e,_⟩:=pl.isList;exact Mc e
   have hlen:its.length=ns.length:=by have:=rv.length;simpa using this.symm
   refine call_sum_walkAnyS (NT pl.isList ⟨s.heap.objs.size,_,_,_,_,_,_,λ i=>ns.getD i 0,rfl,(Walks.list (show X.A.in1.handled=none from I.ok.hd hc) _ p (Ms hlt) its.toArray).toS,⟨⟨_,Mn _ rfl,rfl,rfl⟩,pl.isList.push _⟩,λ b hb=>?_,λ i v hP=>?_,λ s' t' hm=>?_⟩)
   ·rw [Na]
    rcases ML.mp hb with rfl|hb
    ·exact NF _
    ·rw [Mh.mp hb];exact OS hlt
   ·have hv:its[i]? = some v:=by simpa using hP
    have hi:i < ns.length:=by rw [←hlen];exact(L9.mp hv).1
    obtain⟨u,hu,ru⟩:=rv.get (i:=i) (x:=.int (ns.getD i 0)) (by rw [Mq,L8 hi];simp [List.getD,L8 hi]);rw [hv] at hu;cases hu;exact ru
   ·obtain⟨hp,g,d,tk,os⟩:=s'
    have kp:∀ b o,s.heap.get? b=some o->hp.get? b=some o:=λ b o e=>hm.heap b o (λ hmem=>by
     have:b=s.heap.objs.size:=by simpa using hmem
     subst this;exact absurd (Mc e) (M5 _)) (Ma _ e)
    have e1:g=s.gens:=hm.gens;have e2:d=s.drawn:=hm.drawn;have e3:os=s.os:=hm.os;subst e1 e2 e3;refine⟨.int ns.sum,H,I.kept (t':=tk) kp,?_,q⟩;have es:=jF its.toArray.size ns (λ i=>ns.getD i 0) (λ _=>rfl) (by simp [hlen]);rw [show its.toArray.size=ns.length by simp [hlen],MX] at es;rw [show its.toArray.size=ns.length by simp [hlen],es];exact⟨t',rfl⟩
 ·exact h.elim
theorem yz(bs:List Bool):(List.range bs.length).all (λ i=>bs.getD i false)=bs.all id:=by
 rw [N6,Oz,Oz];refine⟨λ h x hx=>?_,λ h i hi=>?_⟩
 ·obtain⟨i,hi,e⟩:=Nx hx;have:=h i (Ng.mpr hi)
  simpa [List.getD,L8 hi,e] using this
 ·have hi':=Ng.mp hi;have:=h (bs[i]) (NN hi')
  simpa [List.getD,L8 hi'] using this
theorem yg(hc:X.calm=true):bO X (.builtin "all") Jf:=by
 intro pins s σ H vs us Q I r h;unfold Jf at h;split at h
 ·rename_i p;obtain⟨xs,e,bs,rfl,q⟩:=ao h
  cases r with
  | cons r rr=>
   cases rr;cases r;obtain⟨its,rv,pl,hz⟩:=I.list (SqL.of (di e));have hlt:p < s.heap.objs.size:=by obtain⟨_,e,_⟩:=pl.isList;exact Mc e
   have hlen:its.length=bs.length:=by have:=rv.length;simpa using this.symm
   refine call_all_walk (NT pl.isList ⟨s.heap.objs.size,_,_,_,_,_,λ i=>bs.getD i false,rfl,Walks.list (show X.A.in1.handled=none from I.ok.hd hc) _ p (Ms hlt) its.toArray,⟨⟨_,Mn _ rfl,rfl,rfl⟩,pl.isList.push _⟩,λ i v s' Q' E' hP hQ=>?_,λ h' tk hk=>?_⟩)
   ·have hv:its[i]? = some v:=by simpa using hP
    have hi:i < bs.length:=by rw [←hlen];exact(L9.mp hv).1
    obtain⟨u,hu,ru⟩:=rv.get (i:=i) (x:=.bl (bs.getD i false)) (by rw [Mq,L8 hi];simp [List.getD,L8 hi]);rw [hv] at hu;cases hu;have e2:v=.bool (bs.getD i false):=ru;subst e2;exact M8 hQ
   ·have kp:∀ b o,s.heap.get? b=some o->h'.get? b=some o:=λ b o e=>hk b o (λ hmem=>by
     have:b=s.heap.objs.size:=by simpa using hmem
     subst this;exact absurd (Mc e) (M5 _)) (Ma _ e)
    refine⟨.bl (bs.all id),H,I.kept (t':=tk) kp,?_,q⟩;rw [show its.toArray.size=bs.length by simp [hlen],yz];exact rfl
 ·exact h.elim
end
section
variable {prog:Program}{w:World}{A:Around}{E:Value->Shared->Prop}{s:Shared}
structure LA(z TI TO i j:Addr)(f g:List Addr):Prop where
 ti:TI ≠ z/\TI ≠ TO/\TI ≠ i/\TI ≠ j
 zt:z ≠ TO
 zf:z ∉ f
 zg:z ∉ g
 tf:TO ∉ f
 tg:TO ∉ g
 ig:i ∉ g
 jf:j ∉ f
variable {z TI TO i j:Addr}{f g:List Addr}{ti tj:Nat->Heap->Prop}{vi vj:Nat->Option Value}{k m:Nat}{x y a b:Value}
end
def SeqAt(h:Heap)(k:Bool)(l:Addr)(xs:Array Value):Prop:=match k with
 | true=>h.IsTuple l xs
 | false=>h.IsList l xs
section
variable {prog:Program}{w:World}{A:Around}{E:Value->Shared->Prop}{s:Shared}
end
section
variable {X:Cx}{pins:List (Addr × Obj)}{σ:List (Option V)}{H:Hp}{s:Shared}{h':Heap}
theorem Inv.turnNew{t':Nat}{ch:List Addr}{n:Addr}{o:HO}(I:Inv X pins σ H s)(hch:∀ b∈ch,kO X pins H b)(k:∀ b ob,b ∉ ch->s.heap.get? b=some ob->h'.get? b=some ob)(hn:s.heap.objs.size<=n)(new:aV X.prog X.w (upd H n o) h' n o) :
  Inv X pins σ (upd H n o) { s with heap:=h',toks:=t' }:=by
 have fn:=I.hok.fresh hn;have up:∀ {b u},H b=some u->upd H n o b=some u:=λ {b u} e=>by rw [ae (ah e fn)];exact e
 have nch:∀ {b u},H b=some u->b ∉ ch:=λ {b u} e z=>by rw [(hch b z).1] at e;cases e
 refine I.step (g':=s.gens) (d':=s.drawn) (ch:=ch) (λ b hb=>⟨(hch b hb).2.2.2.1,(hch b hb).2.1,(hch b hb).2.2.2.2.1,(hch b hb).2.2.2.2.2⟩) (λ b ob _ _ hc e _=>k b ob hc e) (λ b ob _ _ hc e _=>⟨ob.slots,k b ob hc e⟩)
  (λ b ob _ e q=>?_) (λ b ob hc e=>⟨ob,k b ob hc e⟩) (λ _ _ e=>up e) (λ _ _ _ e=>up e) (λ b ps e=>⟨#[],by rw [up e];simp⟩) (λ m hm=>?_) (λ b u e=>?_) I.bare
 ·rw [ae (Ms (Mm (Mc e) hn))];exact q
 ·obtain⟨ol,es,ep,ho,r⟩:=hm;exact⟨ol,es,ep,k _ ol (λ z=>(hch _ z).2.1 rfl) ho,r⟩
 ·by_cases hb:b=n
  ·subst hb;rw [ag] at e;cases e;exact new
  ·rw [ae hb] at e;refine(I.hok b u e).stay (λ c v hc q=>k c v ?_ q) (λ c q=>up q) (λ c y q=>up q) λ c xs q=>up q
   rcases hc with rfl|hc
   ·exact nch e
   ·exact nch hc
theorem Inv.turnL{t':Nat}{ch:List Addr}(I:Inv X pins σ H s)(hch:∀ b∈ch,kO X pins H b)(k:∀ b ob,b ∉ ch->s.heap.get? b=some ob->h'.get? b=some ob):Inv X pins σ H { s with heap:=h',toks:=t' }:=by
 have nch:∀ {b u},H b=some u->b ∉ ch:=λ {b u} e z=>by rw [(hch b z).1] at e;cases e
 refine I.step (g':=s.gens) (d':=s.drawn) (ch:=ch) (λ b hb=>⟨(hch b hb).2.2.2.1,(hch b hb).2.1,(hch b hb).2.2.2.2.1,(hch b hb).2.2.2.2.2⟩) (λ b ob _ _ hc e _=>k b ob hc e) (λ b ob _ _ hc e _=>⟨ob.slots,k b ob hc e⟩)
  (λ _ _ _ _ q=>q) (λ b ob hc e=>⟨ob,k b ob hc e⟩) (λ _ _ e=>e) (λ _ _ _ e=>e) (λ b ps e=>⟨#[],by rw [e];simp⟩) (λ m hm=>?_) (λ b u e=>?_) I.bare
 ·obtain⟨ol,es,ep,ho,r⟩:=hm;exact⟨ol,es,ep,k _ ol (λ z=>(hch _ z).2.1 rfl) ho,r⟩
 ·refine(I.hok b u e).stay (λ c v hc q=>k c v ?_ q) (λ _ q=>q) (λ _ _ q=>q) λ _ _ q=>q
  rcases hc with rfl|hc
  ·exact nch e
  ·exact nch hc
end
section
variable {X:Cx}
end
def IH(te:TE)(σ2:St)(N1:VK)(N0:Hp->Prop):Bool->Hp->Prop:=λ b H=>if b=true then te σ2 H N1 else N0 H
theorem aK(te:TE)(σ2:St)(N1:VK)(N0:Hp->Prop)(b:Bool)(H:Hp):IH te σ2 N1 N0 b H=(if b=true then te σ2 H N1 else N0 H):=rfl
def kCm(k:Nat)(tt:TT)(te:TE)(σ:St)(N1:VK)(N0:Hp->Prop):St->Hp->Prop:=λ σ2 H=>(∃ vs:St,vs.length=k/\σ2=vs++σ)/\tt σ2 H (IH te σ2 N1 N0)
theorem aF(tt:TT)(te:TE)(σ:St)(N1:VK)(N0:Hp->Prop)(a:Option V)(H:Hp):kCm 1 tt te σ N1 N0 (a::σ) H=tt (a::σ) H (IH te (a::σ) N1 N0):=propext ⟨λ h=>h.2,λ h=>⟨⟨[a],rfl,rfl⟩,h⟩⟩
theorem ji(tt:TT)(te:TE)(σ:St)(N1:VK)(N0:Hp->Prop)(a b:Option V)(H:Hp):kCm 2 tt te σ N1 N0 (a::b::σ) H=tt (a::b::σ) H (IH te (a::b::σ) N1 N0):=propext ⟨λ h=>h.2,λ h=>⟨⟨[a,b],rfl,rfl⟩,h⟩⟩
theorem Dt(σ:St):List.replicate 1 (none:Option V)++σ=none::σ:=rfl
theorem Ds(σ:St):List.replicate 2 (none:Option V)++σ=none::none::σ:=rfl
def Al{α:Type}(R:α->V->Prop)(zs:List α)(ys:List V):Prop:=ys.length=zs.length/\∀ (i:Nat) z y,zs[i]? = some z->ys[i]? = some y->R z y
theorem Al.nil{α:Type}{R:α->V->Prop}:Al R [] []:=⟨rfl,λ i z y h=>by simp at h⟩
theorem Al.snoc{α:Type}{R:α->V->Prop}{zs:List α}{ys:List V}{z:α}{y:V}(h:Al R zs ys)(r:R z y):Al R (zs++[z]) (ys++[y]):=by
 refine⟨by simp [h.1],λ i z' y' h1 h2=>?_⟩
 by_cases hi:i < zs.length
 ·rw [MN hi] at h1;rw [MN (by rw [h.1];exact hi)] at h2;exact h.2 i z' y' h1 h2
 ·rw [MG (by omega)] at h1;rw [MG (by rw [h.1];omega),h.1] at h2
  by_cases h0:i - zs.length=0
  ·rw [h0] at h1 h2;simp at h1 h2;subst h1;subst h2;exact r
  ·rw [Ob (by simp;omega)] at h1;cases h1
theorem Al.imp{α:Type}{R S:α->V->Prop}{zs:List α}{ys:List V}(h:Al R zs ys)(f:∀ z y,R z y->S z y):Al S zs ys:=⟨h.1,λ i z y a b=>f z y (h.2 i z y a b)⟩
theorem Al.map{α:Type}{f:α->V}{zs:List α}{ys:List V}(h:Al (λ z y=>y=f z) zs ys):ys=zs.map f:=by
 apply List.ext_getElem?;intro i;rw [Mq]
 by_cases hi:i < zs.length
 ·have e1:zs[i]? = some zs[i]:=L8 hi;have e2:ys[i]? = some (ys[i]'(by rw [h.1];exact hi)):=L8 _;rw [e1,e2,h.2 i _ _ e1 e2];rfl
 ·have:=h.1;rw [Ob (show ys.length<=i by omega),Ob (show zs.length<=i by omega)];rfl
section
variable {k:Nat}{g:TG}{tt:TT}{te:TE}{σ:St}{Q:VK}{H:Hp}{K:PySem.W.Frag}
theorem rN{α:Type}{J:It}(zs:List α)(c:α->Bool)(P:α->V->Hp->Prop)(R:Addr->α->V->Hp->Prop)
  (hgo:∀ i z H',zs[i]? = some z->Ext H H'->J.go i H'/\∀ x H'',J.yld i H' x H''->Ext H' H''/\P z x H'')
  (hst:∀ H',Ext H H'->J.stop zs.length H')
  (hR1:∀ D z y H1 H2,R D z y H1->Ext H1 H2->R D z y H2) (hR2:∀ D z y H1 o,R D z y H1->R D z y (upd H1 D o))
  (hl:zs.length<=sizeLine)
  (hs:∀ D z x H' N1 N0,z∈zs->H D=none->Ext H H'->(∃ ys,H' D=some (.lst ys))->P z x H'->(c z=true->∀ y H'',Ext H' H''->R D z y H''->N1 y H'')->(c z=false->∀ H'',Ext H' H''->N0 H'')->g x (List.replicate k none++σ) H' (kCm k tt te σ N1 N0))
  (hd:∀ D ys H',H D=none->Ext H H'->H' D=some (.lst ys)->Al (λ z y=>R D z y H') (zs.filter c) ys->Q (.ref D) H'):pJ k g tt te σ Q J H:=by
 intro D hD;refine⟨λ i m ys H'=>m=zs.length - i/\i<=zs.length/\Ext H H'/\H' D=some (.lst ys)/\Al (λ z y=>R D z y H') ((zs.take i).filter c) ys,⟨zs.length,by simp,MC _,Ext.new hD,ag,by simpa using Al.nil⟩,?_⟩;rintro i m ys H' ⟨rfl,hi,e,hD',al⟩
 by_cases hlt:i < zs.length
 ·have hz:zs[i]? = some zs[i]:=L8 hlt;obtain⟨go,y⟩:=hgo i zs[i] H' hz e;have tk:zs.take (i+1)=zs.take i++[zs[i]]:=by rw [List.take_succ,hz];rfl
  have ln:ys.length < sizeLine:=by
   have h1:=al.1;have h2:=NL c (zs.take i);simp only [OF] at h2;omega
  refine .inr ⟨go,λ ys' H2=>Ext H H2/\H2 D=some (.lst ys')/\Al (λ z y=>R D z y H2) ((zs.take (i+1)).filter c) ys',λ ys' H2 p=>⟨zs.length - (i+1),by omega,rfl,hlt,p⟩,λ x H2 z=>?_⟩;obtain⟨e2,p2⟩:=y x H2 z;refine hs D zs[i] x H2 (kC3 D ys _) _ (NN hlt) hD (e.trans e2) ⟨ys,e2.at hD'⟩ p2 (λ hc y H3 e3 r3=>?_) λ hc H3 e3=>?_
  ·refine⟨e3.at (e2.at hD'),ln,(e.trans (e2.trans e3)).put hD,ag,?_⟩;rw [tk,N4,show [zs[i]].filter c=[zs[i]] by simp [hc]];exact Al.snoc (al.imp λ z y r=>hR2 _ _ _ _ _ (hR1 _ _ _ _ _ r (e2.trans e3))) (hR2 _ _ _ _ _ r3)
  ·refine⟨e.trans (e2.trans e3),(e2.trans e3).at hD',?_⟩;rw [tk,N4,show [zs[i]].filter c=[] by simp [hc],Oq];exact al.imp λ z y r=>hR1 _ _ _ _ _ r (e2.trans e3)
 ·have e':i=zs.length:=by omega
  subst e';rw [MX] at al;exact .inl ⟨hst H' e,hd D ys H' hD e hD' al⟩
theorem bQ{α:Type}{J:It}(zs:List α)(c:α->Bool)(f:α->V)(P:α->V->Hp->Prop)
  (hgo:∀ i z H',zs[i]? = some z->Ext H H'->J.go i H'/\∀ x H'',J.yld i H' x H''->Ext H' H''/\P z x H'')
  (hst:∀ H',Ext H H'->J.stop zs.length H') (hl:zs.length<=sizeLine)
  (hs:∀ D z x H' N1 N0,z∈zs->H D=none->Ext H H'->P z x H'->(c z=true->∀ H'',Ext H' H''->N1 (f z) H'')->(c z=false->∀ H'',Ext H' H''->N0 H'')->g x (List.replicate k none++σ) H' (kCm k tt te σ N1 N0))
  (hd:∀ D H',H D=none->Ext H H'->H' D=some (.lst ((zs.filter c).map f))->Q (.ref D) H'):pJ k g tt te σ Q J H:=
 rN zs c P (λ _ z y _=>y=f z) hgo hst (λ _ _ _ _ _ r _=>r) (λ _ _ _ _ _ r=>r) hl (λ D z x H' N1 N0 hz hD e _ p k1 k0=>hs D z x H' N1 N0 hz hD e p (λ hc H'' e'=>k1 hc _ H'' e' rfl) k0) λ D ys H' hD e hD' al=>hd D H' hD e (by rw [←al.map];exact hD')
theorem iz{lo:Int}{n:Nat}:(∀ i z H',(List.range n)[i]? = some z->Ext H H'->(Itr lo n).go i H'/\∀ x H'',(Itr lo n).yld i H' x H''->Ext H' H''/\x=.int (lo+(z:Nat)))/\∀ H',Ext H H'->(Itr lo n).stop (List.range n).length H':=by
 refine⟨λ i z H' hz _=>?_,λ H' _=>by simp [Itr]⟩;obtain⟨h1,h2⟩:=L9.mp hz;have e:i=z:=by simpa using h2
 subst e;exact⟨(show i < n by simpa using h1),λ x H'' y=>⟨by rw [y.1];exact Ext.refl _,y.2⟩⟩
theorem nH{a:Addr}{xs:List V}(h:H a=some (.lst xs)):(∀ i z H',xs[i]? = some z->Ext H H'->(Itl K a).go i H'/\∀ x H'',(Itl K a).yld i H' x H''->Ext H' H''/\(x=z/\H'' a=some (.lst xs)))/\∀ H',Ext H H'->(Itl K a).stop xs.length H':=
 ⟨λ i z H' hz e=>⟨⟨xs,z,SqL.of (e.at h),hz⟩,λ x H'' y=>⟨by rw [y.1];exact Ext.refl _,MU ((y.2 xs (SqL.of (e.at h))).symm.trans hz),by rw [y.1];exact e.at h⟩⟩,λ H' e=>⟨xs,SqL.of (e.at h),Mb _⟩⟩
end
def FC(sc:Scope)(N:List Str)(scope:Scope)(N':List Str)(k:Nat):Bool:=
 scope.names.all (λ y=>!(y.2 == .cell)) && (scope.kind == .function) && scope.names.all (λ y=>!(y.2 == .local) || scope.names.lookup y.1 == some .local) && scope.names.all (λ y=>!(y.2 == .free) || sc.names.lookup y.1 == some .cell) && decide (N'.length=k+N.length) &&
  ((N'.drop k).zip N).all (λ p=>(!(scope.names.lookup p.1 == some .free) || decide (p.1=p.2)) && !(scope.names.lookup p.1 == some .local))
theorem aQ{X:Cx}{scope:Scope}{N':List Str}{k:Nat}(sc:Scope)(N:List Str)(h1:X.env.scope=sc)(h2:X.N=N)(h:FC sc N scope N' k=true):jb X scope N' k:=by
 unfold FC at h;simp only [Bool.and_eq_true,decide_eq_true_eq] at h;obtain⟨⟨⟨⟨⟨a1,a2⟩,a3⟩,a4⟩,a5⟩,a6⟩:=h;rw [List.all_eq_true] at a1 a3 a4 a6
 have pr:∀ i x,N'[k+i]? = some x->∃ y,N[i]? = some y/\(x,y)∈(N'.drop k).zip N:=λ i x hx=>by
  have h0:=(L9.mp hx).1;have hi:i < N.length:=by omega
  have e1:(N'.drop k)[i]? = some x:=by rw [List.getElem?_drop];exact hx
  have e2:N[i]? = some N[i]:=L8 hi;refine⟨_,e2,Mu (i:=i) ?_⟩;rw [List.getElem?_zip_eq_some];exact⟨e1,e2⟩
 refine⟨λ y hy e=>?_,by simpa using a2,λ y hy e=>?_,λ y hy e=>?_,by rw [h2];exact a5,λ i x hx hf=>?_,λ i x hx hf=>?_⟩
 ·have:=a1 y hy;rw [e] at this;simp at this
 ·have:=a3 y hy;rw [e] at this;simpa using this
 ·have:=a4 y hy;rw [e] at this;rw [h1];simpa using this
 ·obtain⟨y,hy,hm⟩:=pr i x hx;have:=a6 _ hm;simp only [hf] at this;rw [h2,hy];simp at this;rw [this]
 ·obtain⟨y,hy,hm⟩:=pr i x hx;have:=a6 _ hm;simp [hf] at this
def Ca(H:Hp)(Q:VK):V->Prop:=λ v=>Q v H
theorem DP(H:Hp)(Q:VK)(v:V):Ca H Q v=Q v H:=rfl
def yS(K:W.Frag)(f:Str)(H:Hp)(Q:VK):HO->Prop:=λ o=>match o with
 | .ins C dx fs=>Cls K C/\bh K C f/\aX (fs.lookup f) (Ca H Q)
 | _=>False
theorem DQ(K:W.Frag)(f:Str)(H:Hp)(Q:VK)(C dx:Addr)(fs:List (Str × V)):yS K f H Q (.ins C dx fs)=(Cls K C/\bh K C f/\aX (fs.lookup f) (Ca H Q)):=rfl
def EU(K:W.Frag)(f:Str)(Q:VK):VK:=λ x H=>match x with
 | .ref a=>aX (H a) (yS K f H Q)
 | _=>False
theorem Ht(K:W.Frag)(f:Str)(Q:VK)(a:Addr)(H:Hp):EU K f Q (.ref a) H=aX (H a) (yS K f H Q):=rfl
def K6(K:W.Frag)(ta:TE)(f:Str):TE:=λ σ H Q=>ta σ H (EU K f Q)
theorem Hd(K:W.Frag)(ta:TE)(f:Str)(σ:St)(H:Hp)(Q:VK):K6 K ta f σ H Q=ta σ H (EU K f Q):=rfl
theorem Ef{K:W.Frag}{f:Str}{Q:VK}{x:V}{H:Hp}(h:EU K f Q x H):∃ a C dx fs v,x=.ref a/\H a=some (.ins C dx fs)/\Cls K C/\bh K C f/\fs.lookup f=some v/\Q v H:=by
 unfold EU at h;split at h
 ·obtain⟨o,e,h⟩:=ao h;unfold yS at h;split at h
  ·obtain⟨c,n,h⟩:=h;obtain⟨v,l,q⟩:=ao h;exact⟨_,_,_,_,v,rfl,e,c,n,l,q⟩
  ·exact h.elim
 ·exact h.elim
section
variable {X:Cx}{e o value:Expr}{ta tv:TE}{f:Str}{pos pos':Pos}
theorem CL(he:PE X e ta)(hb:attributeBase e f X.env (eval e X.env)=eval e X.env):PE X (.Attribute e f pos) (K6 X.K ta f):=by
 intro pins s σ H Q I h;refine wb hb (thn (he pins s σ H _ I h) λ u s1 ⟨x,H1,I1,rx,q1⟩=>?_);obtain⟨a,C,dx,fs,v,ex,ea,c,n,l,q⟩:=Ef q1;subst ex;obtain rfl:u=Value.ref a:=rx;exact tO I1 ea c n l λ u' s2 I2 ru=>⟨v,H1,I2,ru,q⟩
def yN(K:W.Frag)(f:Str)(y:V)(a:Addr)(σ:St)(nx:St->Hp->Prop)(H:Hp):HO->Prop:=λ o=>match o with
 | .ins C dx fs=>Cls K C/\bh K C f/\fs.length < 1000/\nx σ (upd H a (.ins C dx (fD f y fs)))
 | _=>False
theorem DG(K:W.Frag)(f:Str)(y:V)(a:Addr)(σ:St)(nx:St->Hp->Prop)(H:Hp)(C dx:Addr)(fs:List (Str × V)):yN K f y a σ nx H (.ins C dx fs)=(Cls K C/\bh K C f/\fs.length < 1000/\nx σ (upd H a (.ins C dx (fD f y fs)))):=rfl
def yO(K:W.Frag)(f:Str)(y:V)(σ:St)(nx:St->Hp->Prop):VK:=λ x H=>match x with
 | .ref a=>aX (H a) (yN K f y a σ nx H)
 | _=>False
theorem DJ(K:W.Frag)(f:Str)(y:V)(σ:St)(nx:St->Hp->Prop)(a:Addr)(H:Hp):yO K f y σ nx (.ref a) H=aX (H a) (yN K f y a σ nx H):=rfl
def B8(K:W.Frag)(f:Str)(ta:TE)(σ:St)(nx:St->Hp->Prop):VK:=λ y H=>ta σ H (yO K f y σ nx)
theorem DK(K:W.Frag)(f:Str)(ta:TE)(σ:St)(nx:St->Hp->Prop)(y:V)(H:Hp):B8 K f ta σ nx y H=ta σ H (yO K f y σ nx):=rfl
def Fl(K:W.Frag)(ta tv:TE)(f:Str):TS:=λ D σ H=>tv σ H (B8 K f ta σ D.nx)
theorem Dy(K:W.Frag)(ta tv:TE)(f:Str)(nx:St->Hp->Prop)(rt:VK)(bk ct:St->Hp->Prop)(σ:St)(H:Hp):Fl K ta tv f ⟨nx,rt,bk,ct⟩ σ H=tv σ H (B8 K f ta σ nx):=rfl
theorem zA(ha:PE X o ta)(hv:PE X value tv)(hs:swapsWith value (some (.Attribute o f pos')) pos.line X.env=pure false):PS X (.Assign [.Attribute o f pos'] value pos) (Fl X.K ta tv f):=by
 intro pins s σ H D I h;refine plainObj_wpAny_Assign_Attribute (thn (hv pins s σ H _ I h) λ u s1 ⟨y,H1,I1,ry,q⟩=>thn (ha pins s1 σ H1 _ I1 q) λ ov s2 ⟨x,H2,I2,rx,q1⟩=>?_) hs;unfold yO at q1;split at q1
 ·rename_i a;obtain rfl:ov=Value.ref a:=rx;obtain⟨ob,ea,q1⟩:=ao q1;unfold yN at q1;split at q1
  ·obtain⟨c,n,l,q2⟩:=q1;exact sD I2 ea c n l ry λ s3 I3=>⟨σ,_,I3,q2⟩
  ·exact q1.elim
 ·exact q1.elim
end
def u5(sp:Sp)(dvs:List V)(E:XK)(a:Addr)(Q:VK):List V->Hp->Prop:=λ vs H=>sp (.ref a::(vs++dvs)) H Q E
theorem sU(sp:Sp)(dvs:List V)(E:XK)(a:Addr)(Q:VK)(H:Hp):u5 sp dvs E a Q [] H=sp (.ref a::dvs) H Q E:=rfl
def qP(C:Addr)(m:Str)(sp:Sp)(dvs:List V)(E:XK)(t:TA)(σ:St)(Q:VK)(a:Addr)(H:Hp):HO->Prop:=λ o=>match o with
 | .ins C' dx fs=>C'=C/\fs.lookup m=none/\t σ H (u5 sp dvs E a Q)
 | _=>False
theorem zY(C:Addr)(m:Str)(sp:Sp)(dvs:List V)(E:XK)(t:TA)(σ:St)(Q:VK)(a:Addr)(H:Hp)(dx:Addr)(fs:List (Str × V)):qP C m sp dvs E t σ Q a H (.ins C dx fs)=(fs.lookup m=none/\t σ H (u5 sp dvs E a Q)):=propext ⟨λ h=>h.2,λ h=>⟨rfl,h⟩⟩
def uB(C:Addr)(m:Str)(sp:Sp)(dvs:List V)(E:XK)(t:TA)(σ:St)(Q:VK):VK:=λ x H=>match x with
 | .ref a=>aX (H a) (qP C m sp dvs E t σ Q a H)
 | _=>False
theorem DM(C:Addr)(m:Str)(sp:Sp)(dvs:List V)(E:XK)(t:TA)(σ:St)(Q:VK)(a:Addr)(H:Hp):uB C m sp dvs E t σ Q (.ref a) H=aX (H a) (qP C m sp dvs E t σ Q a H):=rfl
def Fm(C:Addr)(m:Str)(sp:Sp)(dvs:List V)(E:XK)(ta:TE)(t:TA):TE:=λ σ H Q=>ta σ H (uB C m sp dvs E t σ Q)
theorem DA(C:Addr)(m:Str)(sp:Sp)(dvs:List V)(E:XK)(ta:TE)(t:TA)(σ:St)(H:Hp)(Q:VK):Fm C m sp dvs E ta t σ H Q=ta σ H (uB C m sp dvs E t σ Q):=rfl
theorem Aq{C:Addr}{m:Str}{sp:Sp}{dvs:List V}{E:XK}{t:TA}{σ:St}{Q:VK}{x:V}{H:Hp}(h:uB C m sp dvs E t σ Q x H):∃ a dx fs,x=.ref a/\H a=some (.ins C dx fs)/\fs.lookup m=none/\t σ H λ vs H2=>sp (x::(vs++dvs)) H2 Q E:=by
 unfold uB at h;split at h
 ·obtain⟨o,e,h⟩:=ao h;unfold qP at h;split at h
  ·obtain⟨rfl,l,h⟩:=h;exact⟨_,_,_,rfl,e,l,h⟩
  ·exact h.elim
 ·exact h.elim
section
variable {X:Cx}{CX:CXT}{k:Nat}{f C:Addr}{fd:FuncData}{ps:List Str}{sp:Sp}{dvs:List V}{ds:List Value}{E:XK}{x m:Str}{p pos apos:Pos}{e o:Expr}{es:List Expr}{ta:TE}{t:TA}
theorem wH{pl:Sem Bool}(he:PE X o ta)(c:Cls X.K C)(hm:kM X.K C m f)(F:aW X.prog X.w X.K X.mg X.base CX k f fd ps sp)(hr:fE k X.A)(hb:az X.K fd ps ds)(hd:br dvs ds)(hx:iC CX X E)
  (ht:eval (.Call (.Attribute o m apos) [] [] pos) X.env=(do
   let ov ←eval o X.env
   standAt apos.atName
   let (f,first) ←holding [ov] (getMethod ov m pl)
   callWith pos f first (backTo pos (starEach [] X.env)) (backToKw pos (keywordEach [] X.env))):=by rfl) :
  PE X (.Call (.Attribute o m apos) [] [] pos) (Fm C m sp dvs E ta Iq):=by
 intro pins s σ H Q I h;refine W.methodCall_KW (pl:=pl) (thn (he pins s σ H _ I h) λ u s1 ⟨x,H1,I1,rx,q0⟩=>?_) ht;obtain⟨a,dx,fs,ex,ea,l,q⟩:=Aq q0;subst ex;obtain rfl:u=Value.ref a:=rx;refine k9 I1 ea c hm l ?_;exact W.callWith_K0 (first:=[.ref a]) I1.kIn hm.kp (uU (us:=[.ref a]) (vs:=[.ref a]) F hr hb hd hx I1 (.cons rfl .nil) q)
end
def yQ(x:Addr)(Q:VK):VK:=λ v H=>v=.non/\Q (.ref x) H
theorem DN(x:Addr)(Q:VK)(H:Hp):yQ x Q .non H=Q (.ref x) H:=propext ⟨λ h=>h.2,λ h=>⟨rfl,h⟩⟩
def si(C:Addr)(sp:Sp)(dvs:List V)(E:XK)(Q:VK):List V->Hp->Prop:=λ vs H=>∀ (x dx:Addr) (H':Hp),H x=none->H dx=none->dx ≠ x->Ext H H'->H' x=some (.ins C dx [])->H' dx=some (.own x)->sp (.ref x::(vs++dvs)) H' (yQ x Q) E
theorem w6(C:Addr)(sp:Sp)(dvs:List V)(E:XK)(Q:VK)(a b:V)(H:Hp):si C sp dvs E Q [a,b] H=∀ (x dx:Addr) (H':Hp),H x=none->H dx=none->dx ≠ x->Ext H H'->H' x=some (.ins C dx [])->H' dx=some (.own x)->sp (.ref x::a::b::dvs) H' (yQ x Q) E:=rfl
theorem w5(C:Addr)(sp:Sp)(dvs:List V)(E:XK)(Q:VK)(a b c:V)(H:Hp):si C sp dvs E Q [a,b,c] H=∀ (x dx:Addr) (H':Hp),H x=none->H dx=none->dx ≠ x->Ext H H'->H' x=some (.ins C dx [])->H' dx=some (.own x)->sp (.ref x::a::b::c::dvs) H' (yQ x Q) E:=rfl
def Fo(C:Addr)(sp:Sp)(dvs:List V)(E:XK)(t:TA):TE:=λ σ H Q=>t σ H (si C sp dvs E Q)
theorem DB(C:Addr)(sp:Sp)(dvs:List V)(E:XK)(t:TA)(σ:St)(H:Hp)(Q:VK):Fo C sp dvs E t σ H Q=t σ H (si C sp dvs E Q):=rfl
section
variable {X:Cx}{CX:CXT}{k:Nat}{f C:Addr}{fd:FuncData}{ps:List Str}{sp:Sp}{dvs:List V}{ds:List Value}{E:XK}{x m:Str}{p pos apos:Pos}{e o:Expr}{es:List Expr}{ta:TE}{t:TA}
theorem si.to{Q:VK}{vs:List V}{H:Hp}(h:si C sp dvs E Q vs H):∀ x dx,H x=none->H dx=none->dx ≠ x->sp (.ref x::(vs++dvs)) (upd (upd H dx (.own x)) x (.ins C dx [])) (λ v H2=>v=.non/\Q (.ref x) H2) E:=λ x dx hx hd ne=>
 h x dx _ hx hd ne ((Ext.new hd).put hx) ag (by rw [ae ne,ag])
theorem zE(M:Mk X.K C f)(F:aW X.prog X.w X.K X.mg X.base CX k f fd ps sp)(hr:fE (k+1) X.A)(hg:Gl X x)(hm:X.mg x=some (.ref C))(hb:az X.K fd ps ds)(hd:br dvs ds)(hx:iC CX X E)
  (ha:PA X (e::es) t) (hdb:(x == ("__debug__":Str))=false:=by decide) (he:starEach (e::es) X.env=(false,eval e X.env)::starEach es X.env:=by rfl) (hpl:(backTo pos (starEach es X.env)).any (·.1)=false:=by rfl) :
  PE X (.Call (.Name x p) (e::es) [] pos) (Fo C sp dvs E t):=by
 intro pins s σ H Q I h;refine Nb (eu I hg hm ?_ hdb);refine W.callWith_K (h₀:=X.base) I.ok.mod.kin M.kp (thn (ha pos pins s σ H _ I h) λ us s1 ⟨vs,H1,I1,r,q⟩=>⟨I1.kIn,?_⟩) he hpl;exact zo M F hr hb hd hx I1 r q.to
end
def vK:Expr->Bool
 | .Starred ..=>false
 | _=>true
theorem Ct{e:Expr}{es:List Expr}{env:Env}(h:vK e=true):starEach (e::es) env=(false,eval e env)::starEach es env:=by
 cases e<;>first|rfl|cases h
theorem ES{X:Cx}{e:Expr}{es:List Expr}{te:TE}{t:TA}(ha:PE X e te)(hr:PA X es t)(hn:vK e=true:=by rfl):PA X (e::es) (yL te t):=CO ha hr (Ct hn)
theorem JX(K:W.Frag)(t:TA)(σ:St)(H:Hp)(Q:VK):tXI K t σ H Q=t σ H (kXI K Q):=rfl
theorem Dc(K:W.Frag)(ta tv:TE)(f:Str)(nx:St->Hp->Prop)(rt:VK)(bk ct:St->Hp->Prop)(σ:St)(H:Hp):E1 K ta tv f ⟨nx,rt,bk,ct⟩ σ H=tv σ H (Jj K f ta σ nx):=rfl
theorem Hf(K:W.Frag)(f:Str)(ta:TE)(σ:St)(nx:St->Hp->Prop)(y:V)(H:Hp):Jj K f ta σ nx y H=ta σ H (K9 K f y σ nx):=rfl
theorem wX(C:Addr)(sp:Sp)(E:St->XK)(t:TA)(D:gF)(σ:St)(H:Hp):vt C sp E t D σ H=t σ H (kRI C sp (E σ)):=rfl
theorem JY(K:W.Frag)(ta:TE)(f:Str)(σ:St)(H:Hp)(Q:VK):tXF K ta f σ H Q=ta σ H (kXF K f Q):=rfl
def IV(C:Addr)(f:Str):Sp:=λ vs H Q E=>∃ e x,vs=[.ref e,x]/\H e=some (exH e C none)/\∀ dx H',H dx=none->dx ≠ e->(∀ b o,b ≠ e->H b=some o->H' b=some o)->H' e=some (exH e C (some dx))->H' dx=some (.xd [(f,x)])->Q .non H'
theorem HV(C:Addr)(f:Str){vs:List V}{H:Hp}{Q:VK}{E:XK}(h:IV C f vs H Q E):vs.length=2:=by
 obtain⟨_,_,rfl,_⟩:=h;rfl
theorem Bw{C:Addr}{f:Str}{E:XK}{x:V}{H:Hp}(h:∀ dx H',Ext H H'->H' dx=some (.xd [(f,x)])->E (.ref C) (some dx) H'):kRI C (IV C f) E [x] H:=by
 refine⟨(show 1<=sizeLine by decide),λ e he=>⟨e,x,rfl,ag,λ dx H' h1 h2 h3 h4 h5=>⟨rfl,some dx,h4,λ _ z=>by cases z;exact⟨_,by rw [eY h2];exact h5⟩,h dx _ (kB.ext λ b o q=>?_) (by rw [eY h2];exact h5)⟩⟩⟩;have hb:b ≠ e:=ah q he;rw [eY hb];exact h3 b o hb (by rw [ae hb];exact q)
def qJ(H:Hp)(z:List Int)(y:V):Prop:=∃ q,y=.ref q/\H q=some (.tup (z.map V.int))
theorem qJ.ext{H H':Hp}{z:List Int}{y:V}(h:qJ H z y)(e:Ext H H'):qJ H' z y:=by
 obtain⟨q,rfl,hq⟩:=h;exact⟨q,rfl,e.at hq⟩
theorem qJ.upd{H:Hp}{z:List Int}{y:V}{p:Addr}{xs:List V}{o:HO}(h:qJ H z y)(hp:H p=some (.lst xs)):qJ (upd H p o) z y:=by
 obtain⟨q,rfl,hq⟩:=h;exact⟨q,rfl,by rw [ae (λ z=>by rw [z,hp] at hq;cases hq)];exact hq⟩
def aB(H:Hp)(p:Addr)(zs:List (List Int)):Prop:=∃ ys,H p=some (.lst ys)/\Al (qJ H) zs ys
theorem aB.ext{H H':Hp}{p:Addr}{zs:List (List Int)}(h:aB H p zs)(e:Ext H H'):aB H' p zs:=by
 obtain⟨ys,hp,al⟩:=h;exact⟨ys,e.at hp,al.imp λ _ _ r=>r.ext e⟩
theorem aC{n:Nat}(h:n<=5000):n<=sizeLine:=MQ h (by decide)
theorem Br{n:Nat}(h:n < 5000):n < sizeLine:=Mm h (by decide)
theorem lO{K:W.Frag}{H:Hp}{α:Type}{R:α->V->Hp->Prop}(hR:∀ z y H H',R z y H->Ext H H'->R z y H'){l:Addr}{ys:List V}{zs:List α}(h:H l=some (.lst ys))(al:Al (λ z y=>R z y H) zs ys) :
  (∀ i z H',zs[i]? = some z->Ext H H'->(Itl K l).go i H'/\∀ x H'',(Itl K l).yld i H' x H''->Ext H' H''/\R z x H'')/\∀ H',Ext H H'->(Itl K l).stop zs.length H':=by
 refine⟨λ i z H' hz e=>?_,λ H' e=>⟨ys,SqL.of (e.at h),by rw [al.1];exact Mb _⟩⟩;have hi:i < ys.length:=by rw [al.1];exact(L9.mp hz).1
 have hy:ys[i]? = some ys[i]:=L8 hi;refine⟨⟨ys,ys[i],SqL.of (e.at h),hy⟩,λ x H'' y=>?_⟩;have hx:x=ys[i]:=MU ((y.2 ys (SqL.of (e.at h))).symm.trans hy);refine⟨by rw [y.1];exact Ext.refl _,?_⟩;rw [hx,y.1];exact hR _ _ _ _ (al.2 i z _ hz hy) e
def axP(a:Int × Int)(x:V)(H:Hp):Prop:=∃ q,x=.ref q/\H q=some (.tup [.int a.1,.int a.2])
theorem axP.ext{a:Int × Int}{x:V}{H H':Hp}(h:axP a x H)(e:Ext H H'):axP a x H':=by
 obtain⟨q,rfl,hq⟩:=h;exact⟨q,rfl,e.at hq⟩
theorem kW{H:Hp}{axs:List (Int × Int)}{ys:List V}(al:Al (qJ H) (axs.map λ a=>[a.1,a.2]) ys):Al (λ a y=>axP a y H) axs ys:=by
 refine⟨by rw [al.1,Md],λ i a y ha hy=>?_⟩;obtain⟨q,hq,h⟩:=al.2 i [a.1,a.2] y (by rw [Mq,ha];rfl) hy;exact⟨q,hq,h⟩
section
variable {prog:Program}{w:World}{A:Around}{E:Value->Shared->Prop}{s:Shared}
variable {z TI TO i j:Addr}{f g:List Addr}{ti tj:Nat->Heap->Prop}{vi vj:Nat->Option Value}{k m:Nat}{x y:Value}{t:Addr}{fl:Bool}{ot:Obj}
variable {ka kb:Bool}{a b p q:Addr}{as bs:Array Value}{n:Nat}
end
section
variable {X:Cx}{pins:List (Addr × Obj)}{σ:St}{s:Shared}
end
section
variable {X:Cx}
end
def Je(xs:List V)(H:Hp)(Q:VK):Prop:=match xs with
 | [.int i]=>Q (.int i) H
 | [.bl k]=>Q (.int (if k=true then 1 else 0)) H
 | _=>False
theorem zT(k:Bool)(H:Hp)(Q:VK):Je [.bl k] H Q=Q (.int (if k=true then 1 else 0)) H:=rfl
theorem yf{X:Cx}:bO X (.type "int") Je:=ym.mono λ xs H Q h=>by
 unfold Je at h;split at h
 ·exact .inl ⟨_,rfl,h⟩
 ·exact .inr ⟨_,rfl,h⟩
 ·exact h.elim
def B9(H:Hp)(Q:VK):List Int->Prop:=λ ns=>0 < ns.length/\∀ M,M∈ns->(∀ a∈ns,a<=M)->Q (.int M) H
theorem vh(H:Hp)(Q:VK)(ns:List Int):B9 H Q ns=(0 < ns.length/\∀ M,M∈ns->(∀ a∈ns,a<=M)->Q (.int M) H):=rfl
def BU:List V->Hp->VK->Prop:=λ vs H Q=>match vs with
 | [.ref p]=>aX (aO H p) (lP (B9 H Q))
 | _=>False
theorem Du(p:Addr)(H:Hp)(Q:VK):BU [.ref p] H Q=aX (aO H p) (lP (B9 H Q)):=rfl
section
variable {X:Cx}
theorem lq(hc:X.calm=true):bO X (.builtin "max") BU:=by
 intro pins s σ H vs us Q I r h;unfold BU at h;split at h
 ·rename_i p;obtain⟨xs,e,ns,rfl,hn,q⟩:=ao h
  cases r with
  | cons r rr=>
   cases rr;cases r;obtain⟨its,rv,pl,hz⟩:=I.list (SqL.of (di e));have hlt:p < s.heap.objs.size:=by obtain⟨_,e,_⟩:=pl.isList;exact Mc e
   have hlen:its.length=ns.length:=by have:=rv.length;simpa using this.symm
   have hsz:its.toArray.size=ns.length:=by simp [hlen]
   have hP:∀ (i:Nat) (v:Value),its.toArray[i]? = some v->∃ t,v=.int (ns.getD i 0) t:=λ i v hP=>by
    have hv:its[i]? = some v:=by simpa using hP
    have hi:i < ns.length:=by rw [←hlen];exact(L9.mp hv).1
    obtain⟨u,hu,ru⟩:=rv.get (i:=i) (x:=.int (ns.getD i 0)) (by rw [Mq,L8 hi];simp [List.getD,L8 hi]);rw [hv] at hu;cases hu;exact ru
   refine call_max_walkS (NT pl.isList ⟨s.heap.objs.size,_,_,_,_,_,_,λ i j=>decide (ns.getD i 0 > ns.getD j 0),rfl,(Walks.list (show X.A.in1.handled=none from I.ok.hd hc) _ p (Ms hlt) its.toArray).toS,⟨⟨_,Mn _ rfl,rfl,rfl⟩,pl.isList.push _⟩,λ b hb=>?_,by rw [hsz];exact hn,CmpOf.ints_gt (λ i=>ns.getD i 0) λ i v h=>hP i v h,λ v s' hv hm=>?_⟩)
   ·rw [Na]
    rcases ML.mp hb with rfl|hb
    ·exact NF _
    ·rw [Mh.mp hb];exact OS hlt
   ·obtain⟨hp,g,d,tk,os⟩:=s'
    have kp:∀ b o,s.heap.get? b=some o->hp.get? b=some o:=λ b o e=>hm.heap b o (λ hmem=>by
     have:b=s.heap.objs.size:=by simpa using hmem
     subst this;exact absurd (Mc e) (M5 _)) (Ma _ e)
    have e1:g=s.gens:=hm.gens;have e2:d=s.drawn:=hm.drawn;have e3:os=s.os:=hm.os;subst e1 e2 e3;obtain⟨b1,b2⟩:=argBest_gt (λ i=>ns.getD i 0) (its.toArray.size - 1);have rv2:=hP _ v hv;generalize argBest (λ i j=>decide (ns.getD i 0 > ns.getD j 0)) (its.toArray.size - 1)=k at b1 b2 rv2;rw [hsz] at b1 b2;have hk:k < ns.length:=by omega
    refine⟨.int (ns.getD k 0),H,I.kept (t':=tk) kp,rv2,q _ ?_ λ a ha=>?_⟩
    ·rw [List.getD,L8 hk];exact NN hk
    ·obtain⟨j,hj,rfl⟩:=Nx ha;have:=b2 j (by omega);rw [show ns.getD j 0=ns[j] by rw [List.getD,L8 hj];rfl] at this;exact this
 ·exact h.elim
end
def Cb(l:Addr)(xs:List V)(H:Hp)(Q:VK):List V->Prop:=λ zs=>xs.length+zs.length<=sizeLine/\Q .non (upd H l (.lst (xs++zs)))
theorem DR(l:Addr)(xs:List V)(H:Hp)(Q:VK)(zs:List V):Cb l xs H Q zs=(xs.length+zs.length<=sizeLine/\Q .non (upd H l (.lst (xs++zs)))):=rfl
def Ft(l b:Addr)(H:Hp)(Q:VK):List V->Prop:=λ xs=>aX (aO H b) (Cb l xs H Q)
theorem DS(l b:Addr)(H:Hp)(Q:VK)(xs:List V):Ft l b H Q xs=aX (aO H b) (Cb l xs H Q):=rfl
theorem wY(l b:Addr)(H:Hp)(Q:VK):vD (.ref l) [.ref b] H Q=aX (aO H l) (Ft l b H Q):=by
 refine propext ⟨λ h=>?_,λ h=>?_⟩
 ·obtain⟨l',b',xs,zs,e1,e2,h1,h2,h3,q⟩:=h;cases e1;cases e2;unfold aO;rw [h1]
  show aX (aO H b) _
  unfold aO;rw [h2];exact⟨h3,q⟩
 ·obtain⟨xs,e,h⟩:=ao h;obtain⟨zs,e2,h3,q⟩:=ao h;exact⟨l,b,xs,zs,rfl,rfl,di e,di e2,h3,q⟩
section
variable {X:Cx}{a b c d:Expr}{ta tb tc td:TE}{pos:Pos}
end
section
variable {k:Nat}{g:TG}{tt:TT}{te:TE}{σ:St}{Q:VK}{H:Hp}{K:PySem.W.Frag}
theorem ow{α:Type}{J:It}(zs:List α)(c:α->Bool)(P:α->V->Hp->Prop)(R:Addr->α->V->Hp->Prop)
  (hgo:∀ i z H',zs[i]? = some z->Ext H H'->J.go i H'/\∀ x H'',J.yld i H' x H''->Ext H' H''/\P z x H'')
  (hst:∀ H',Ext H H'->J.stop zs.length H')
  (hR1:∀ D z y H1 H2,R D z y H1->Ext H1 H2->R D z y H2) (hR2:∀ D z y H1 xs o,R D z y H1->H1 D=some (.lst xs)->R D z y (upd H1 D o))
  (hl:zs.length<=sizeLine)
  (hs:∀ D z x H' N1 N0,z∈zs->H D=none->Ext H H'->(∃ ys,H' D=some (.lst ys))->P z x H'->(c z=true->∀ y H'',Ext H' H''->R D z y H''->N1 y H'')->(c z=false->∀ H'',Ext H' H''->N0 H'')->g x (List.replicate k none++σ) H' (kCm k tt te σ N1 N0))
  (hd:∀ D ys H',H D=none->Ext H H'->H' D=some (.lst ys)->Al (λ z y=>R D z y H') (zs.filter c) ys->Q (.ref D) H'):pJ k g tt te σ Q J H:=by
 intro D hD;refine⟨λ i m ys H'=>m=zs.length - i/\i<=zs.length/\Ext H H'/\H' D=some (.lst ys)/\Al (λ z y=>R D z y H') ((zs.take i).filter c) ys,⟨zs.length,by simp,MC _,Ext.new hD,ag,by simpa using Al.nil⟩,?_⟩;rintro i m ys H' ⟨rfl,hi,e,hD',al⟩
 by_cases hlt:i < zs.length
 ·have hz:zs[i]? = some zs[i]:=L8 hlt;obtain⟨go,y⟩:=hgo i zs[i] H' hz e;have tk:zs.take (i+1)=zs.take i++[zs[i]]:=by rw [List.take_succ,hz];rfl
  have ln:ys.length < sizeLine:=by
   have h1:=al.1;have h2:=NL c (zs.take i);simp only [OF] at h2;omega
  refine .inr ⟨go,λ ys' H2=>Ext H H2/\H2 D=some (.lst ys')/\Al (λ z y=>R D z y H2) ((zs.take (i+1)).filter c) ys',λ ys' H2 p=>⟨zs.length - (i+1),by omega,rfl,hlt,p⟩,λ x H2 z=>?_⟩;obtain⟨e2,p2⟩:=y x H2 z;refine hs D zs[i] x H2 (kC3 D ys _) _ (NN hlt) hD (e.trans e2) ⟨ys,e2.at hD'⟩ p2 (λ hc y H3 e3 r3=>?_) λ hc H3 e3=>?_
  ·refine⟨e3.at (e2.at hD'),ln,(e.trans (e2.trans e3)).put hD,ag,?_⟩;rw [tk,N4,show [zs[i]].filter c=[zs[i]] by simp [hc]];exact Al.snoc (al.imp λ z y r=>hR2 _ _ _ _ _ _ (hR1 _ _ _ _ _ r (e2.trans e3)) (e3.at (e2.at hD'))) (hR2 _ _ _ _ _ _ r3 (e3.at (e2.at hD')))
  ·refine⟨e.trans (e2.trans e3),(e2.trans e3).at hD',?_⟩;rw [tk,N4,show [zs[i]].filter c=[] by simp [hc],Oq];exact al.imp λ z y r=>hR1 _ _ _ _ _ r (e2.trans e3)
 ·have e':i=zs.length:=by omega
  subst e';rw [MX] at al;exact .inl ⟨hst H' e,hd D ys H' hD e hD' al⟩
end
def Ite(l:Addr)(xs:List V):It:=
 ⟨λ i H=>H l=some (.lst xs)/\i < xs.length,λ i H x H'=>∃ p u,H p=none/\x=.ref p/\xs[i]? = some u/\H'=upd H p (.tup [.int (i:Int),u]),λ i H=>H l=some (.lst xs)/\i=xs.length⟩
def Tne(l e it:Addr)(i:Nat)(h:Heap):Prop:=(∃ old,IsEnum h e it (i:Int) old)/\h.IsListIter it l i
theorem wu{P:Program}{w:World}{K:PySem.W.Frag}{elts:List Expr}{x1}{tp:Pos}(l e it:Addr)(xs:List V)(ne:e ≠ it):AV P w K (.Tuple elts x1 tp) (Ite l xs) [e,it] e (Tne l e it) where
 mem:=Mx
 obj:=λ i h st c hc=>by
  obtain⟨⟨old,e1⟩,e2⟩:=st;simp only [ML,MK,N8] at hc
  rcases hc with rfl|rfl
  ·exact⟨_,e1,λ v z=>by cases z⟩
  ·obtain⟨o,e,_,d⟩:=e2;exact⟨o,e,λ v z=>by rw [d] at z;cases z⟩
 keep:=λ i h h' st k=>by
  obtain⟨⟨old,e1⟩,e2⟩:=st;exact⟨⟨old,k e (by simp) _ e1⟩,e2.at λ o q=>k it (by simp) o q⟩
 item:=by
  intro X hP hw hK hc i pins s σ H E I hf st hg;subst hP hw hK;obtain⟨ha,l1⟩:=hg;obtain⟨as,ra,pl,_⟩:=I.list (SqL.of ha);have hx:xs[i]? = some xs[i]:=L8 l1;obtain⟨u,hu,ru⟩:=ra.get hx;have free:∀ c∈[e,it],H c=none:=λ c h=>(hf c h).1;have nle:l ≠ e:=λ z=>by have:=free e (by simp);rw [←z,ha] at this;cases this
  have nlt:l ≠ it:=λ z=>by have:=free it (by simp);rw [←z,ha] at this;cases this
  have W:=WalksT.enumerate (prog:=X.prog) (w:=X.w) (I.ok.hd hc) e it l ne nle nlt as.toArray;have la:=ra.length;obtain⟨e1,e2⟩:=st;obtain⟨old,e1'⟩:=e1;refine W.item i s _ E (by simp;omega) ⟨⟨old,e1'⟩,e2,pl.isList⟩ λ T vals h1 tk hp hle hT hmid kp=>⟨_,rfl,?_⟩;refine W.go elts x1 tp i T ⟨h1,s.gens,s.drawn,tk,s.os⟩ _ E hmid λ h2 st2 kp2=>?_;have nT:=W.apart i T h1 hmid;obtain⟨tk',x,hx',rfl⟩:=hp
  have hxu:x=u:=by
   have:as[i]? = some x:=by simpa using hx'
   rw [hu] at this;exact(MU this).symm
  subst hxu;have hT2:h2.IsTuple T #[.int (i:Int) tk',x]:=hT.at λ o q=>kp2 T o nT q;have I2:Inv X pins σ (upd H T (.tup [.int (i:Int),xs[i]])) { s with heap:=h2,toks:=tk }:=I.turnNew (t':=tk) (ch:=[e,it]) (λ c hc=>hf c hc) (λ c o hc q=>kp2 c o hc (kp c o hc q)) hle ⟨(show 2<=sizeLine by decide),[.int (i:Int) tk',x],.cons ⟨tk',rfl⟩ (.cons ru .nil),hT2⟩;have fr:H T=none:=I.hok.fresh hle;refine⟨.ref T,_,I2,rfl,⟨_,_,fr,rfl,hx,rfl⟩,⟨st2.1,st2.2.1⟩,λ c hc=>?_⟩
  have hlt:c < s.heap.objs.size:=by
   simp only [ML,MK,N8] at hc
   rcases hc with rfl|rfl
   ·exact Mc e1'
   ·obtain⟨o,q,_⟩:=e2;exact Mc q
  rw [ae (Ms (Mm hlt hle))];exact free c hc
 done:=by
  intro X hP hw hK hc i pins s σ H E I hf st hg;subst hP hw hK;obtain⟨ha,rfl⟩:=hg;obtain⟨as,ra,pl,_⟩:=I.list (SqL.of ha);have free:∀ c∈[e,it],H c=none:=λ c h=>(hf c h).1;have nle:l ≠ e:=λ z=>by have:=free e (by simp);rw [←z,ha] at this;cases this
  have nlt:l ≠ it:=λ z=>by have:=free it (by simp);rw [←z,ha] at this;cases this
  have W:=WalksT.enumerate (prog:=X.prog) (w:=X.w) (I.ok.hd hc) e it l ne nle nlt as.toArray;have la:=ra.length;have hsz:as.toArray.size=xs.length:=by simp [la]
  obtain⟨e1,e2⟩:=st;refine W.done s _ E (by rw [hsz];exact⟨e1,e2,pl.isList⟩) λ h' tk kp=>⟨rfl,I.turnL (t':=tk) (ch:=[e,it]) (λ c hc=>hf c hc) kp⟩
 self:=λ A i s Q E st h=>by
  obtain⟨⟨old,e1⟩,e2⟩:=st;exact wpAny_pyIter_enum e1 h
def Jq(l:Addr)(H:Hp)(R:It->Hp->Prop):List V->Prop:=λ xs=>R (Ite l xs) H
theorem Hu(l:Addr)(H:Hp)(R:It->Hp->Prop)(xs:List V):Jq l H R xs=R (Ite l xs) H:=rfl
def IG(R:It->Hp->Prop):List V->Hp->Prop:=λ vs H=>match vs with
 | [.ref l]=>aX (aO H l) (Jq l H R)
 | _=>False
theorem Hv(R:It->Hp->Prop)(l:Addr)(H:Hp):IG R [.ref l] H=aX (aO H l) (Jq l H R):=rfl
def Fy(ta:TA):TI:=λ σ H R=>ta σ H (IG R)
theorem D5(ta:TA)(σ:St)(H:Hp)(R:It->Hp->Prop):Fy ta σ H R=ta σ H (IG R):=rfl
section
variable {X:Cx}
theorem p0{a:Expr}{elts:List Expr}{x1}{tp:Pos}{ta:TA}{p pos:Pos}(hg:Gl X "enumerate")(hm:X.mg "enumerate"=none)(ha:PA X [a] ta)(he:starEach [a] X.env=[(false,eval a X.env)]:=by rfl) :
  PI X (.Tuple elts x1 tp) (.Call (.Name "enumerate" p) [a] [] pos) (Fy ta):=by
 intro pins s σ H R I h;refine Call_ (fX I hg hm (show bootBuiltins "enumerate"=some (.type "enumerate") by decide +kernel) (PyProof.Rows.callWith_type1 (thn (ha pos pins s σ H _ I h) λ us s1 ⟨vs,H1,I1,r1,q1⟩=>?_) (by rw [he];rfl) (by rfl)));unfold IG at q1;split at q1
 ·rename_i l;obtain⟨xs,e,q⟩:=ao q1;replace e:=di e
  cases r1 with
  | cons r rr=>
   cases rr;cases r;obtain⟨as,ra,pl,_⟩:=I1.list (SqL.of e);refine call_enumerate_list pl.isList λ h' e1 e2 e3 e4=>?_;have I2:Inv X pins σ H1 { s1 with heap:=h' }:=I1.kept (t':=s1.toks) e4;refine wpAny_pyIter_enum (s:={ s1 with heap:=h' }) e1 ⟨s1.heap.objs.size+1,[s1.heap.objs.size+1,s1.heap.objs.size],_,_,H1,rfl,I2,wu l (s1.heap.objs.size+1) s1.heap.objs.size xs (by simp),⟨⟨_,e1⟩,e2⟩,λ c hc=>?_,q⟩
   have hle:s1.heap.objs.size<=c:=by
    simp only [ML,MK,N8] at hc
    rcases hc with rfl|rfl
    ·exact Oy ..
    ·exact Mb _
   exact I1.fpOk hle (I1.hok.fresh hle)
 ·exact q1.elim
end
section
variable {g:TG}{σ:St}{Q:VK}{H:Hp}{K:PySem.W.Frag}
theorem rL{tb:TS}{nx:St->Hp->Prop}{rt:VK}{bk ct:St->Hp->Prop}{l:Addr}{xs:List V}(Pv:Nat->St->Hp->Prop)(h0:Pv 0 σ H)(hl:∀ i σ H,Pv i σ H->H l=some (.lst xs))
  (hs:∀ i u p σ H H',xs[i]? = some u->Pv i σ H->H p=none->Ext H H'->H' p=some (.tup [.int (i:Int),u])->g (.ref p) σ H' (uD tb ⟨Pv (i+1),rt,nx,Pv (i+1)⟩)) (hd:∀ σ H,Pv xs.length σ H->nx σ H):ET g tb ⟨nx,rt,bk,ct⟩ σ (Ite l xs) H:=by
 refine⟨λ i m σ H=>m=xs.length - i/\i<=xs.length/\Pv i σ H,⟨xs.length,by simp,MC _,h0⟩,?_⟩;rintro i m σ H ⟨rfl,hi,p⟩;have qa:=hl i σ H p
 by_cases hlt:i < xs.length
 ·refine .inr ⟨⟨qa,hlt⟩,Pv (i+1),λ σ' H' p'=>⟨xs.length - (i+1),by omega,rfl,hlt,p'⟩,λ x H' y=>?_⟩;obtain⟨r,u,hr,rfl,hu,rfl⟩:=y;exact hs i u r σ H _ hu p hr (Ext.new hr) ag
 ·have e:i=xs.length:=by omega
  subst e;exact .inl ⟨⟨qa,rfl⟩,hd σ H p⟩
end
section
variable {X:Cx}{CX:CXT}{k:Nat}{f C:Addr}{fd:FuncData}{ps:List Str}{sp:Sp}{dvs:List V}{ds:List Value}{E:St->XK}{x m:Str}{p pos apos:Pos}{e o:Expr}{es:List Expr}{ta:TE}{t:TA}
end
section
variable {X:Cx}{e st:Expr}{te tst:TE}{pos p2:Pos}
end
def AS(n:Int):List V:=(List.range n.toNat).map λ (i:Nat)=>V.int (i:Int)
def kLR(Q:VK):List V->Hp->Prop:=λ vs H=>match vs with
 | [.int n]=>0<=n/\n<=4096/\nB (.lst (AS n)) H Q
 | _=>False
theorem EZ(Q:VK)(n:Int)(H:Hp):kLR Q [.int n] H=(0<=n/\n<=4096/\nB (.lst (AS n)) H Q):=rfl
def tLR(ta:TA):TE:=λ σ H Q=>ta σ H (kLR Q)
theorem J4(ta:TA)(σ:St)(H:Hp)(Q:VK):tLR ta σ H Q=ta σ H (kLR Q):=rfl
theorem qd{n:Int}(h0:n<=4096)(h1:-5000<=n):Builtin.Range.small 0 n 1=true/\Builtin.Range.rangeSize 0 n 1=((n.toNat:Nat):Int):=by
 have e:Builtin.Range.rangeSize 0 n 1=((n.toNat:Nat):Int):=by
  unfold Builtin.Range.rangeSize;rw [if_pos (by decide)];split
  ·rw [Int.ediv_one];omega
  ·omega
 refine⟨?_,e⟩;unfold Builtin.Range.small;rw [e,if_pos (by decide)];unfold Builtin.Range.rangeFitsLong;simp;omega
theorem jB:∀ {xs:List V}{us:List Value},us.length=xs.length->(∀ (i:Nat) (x:V) (u:Value),xs[i]? = some x->us[i]? = some u->bc x u)->br xs us
 | [],[],_,_=>.nil
 | [],_::_,h,_=>by cases h
 | _::_,[],h,_=>by cases h
 | x::xs,u::us,h,k=>.cons (k 0 x u rfl rfl) (jB (by simpa using h) λ i y w a b=>k (i+1) y w (by simpa using a) (by simpa using b))
section
variable {X:Cx}
theorem fA{a:Expr}{ta:TA}{p p2 pos pos2:Pos}(hc:X.calm=true)(hg:Gl X "list")(hm:X.mg "list"=none)(hg2:Gl X "range")(hm2:X.mg "range"=none)(ha:PA X [a] ta)(hs:starEach [a] X.env=[(false,eval a X.env)]:=by rfl)(hs3:starEach [Expr.Call (.Name "range" p2) [a] [] pos2] X.env=[(false,eval (Expr.Call (.Name "range" p2) [a] [] pos2) X.env)]:=by rfl)(hs4:starEach ([]:List Expr) X.env=[]:=by rfl) :
  PE X (.Call (.Name "list" p) [.Call (.Name "range" p2) [a] [] pos2] [] pos) (tLR ta):=by
 intro pins s σ H Q I h;refine Nb (fX I hg hm (show bootBuiltins "list"=some (.type "list") by decide +kernel) ?_);refine Nm ?_ (by rw [hs3,hs4]) (by rw [hs4];rfl);rw [hs3]
 show wpAny _ _ (spliced ((false,eval _ X.env)::[])) _ _ s
 refine Calls.spliced_cons ?_;refine Call_ (fX I hg2 hm2 boot_range (PyProof.Rows.callWith_type1 (thn (ha pos2 pins s σ H _ I h) λ us s1 ⟨vs,H1,I1,r1,q1⟩=>?_) hs rfl));unfold kLR at q1;split at q1
 ·rename_i n;obtain⟨hn0,hn,q⟩:=q1
  cases r1 with
  | cons r rr=>
   cases rr;obtain⟨t,rfl⟩:=r;refine call_range_1 ?_;refine Calls.spliced_nil ?_;obtain⟨k1,k2⟩:=qd hn (by omega);have I2:Inv X pins σ H1 { s1 with heap:=s1.heap.push { cls:=.type "range",data:=.fields #[.int 0 s1.toks,.int n t,.int 1 (s1.toks+1)] },toks:=s1.toks+1+1 }:=I1.kept (t':=s1.toks+1+1) λ b ob e=>Ma _ e;refine call_list_range (s:={ s1 with heap:=s1.heap.push { cls:=.type "range",data:=.fields #[.int 0 s1.toks,.int n t,.int 1 (s1.toks+1)] },toks:=s1.toks+1+1 }) (n:=n.toNat) (I1.ok.hd hc) (Mn _ rfl) k1 k2 (by omega) λ h' tk acc c kp hget hit=>?_;have fr:=I2.hok.fresh (Mb _)
   have hv:br (AS n) acc.toList:=by
    refine jB (by unfold AS;rw [length_map,length_range,Array.length_toList,hit.1]) λ i x u hx hu=>?_;unfold AS at hx;rw [getElem?_map] at hx;obtain⟨j,hj,rfl⟩:=Option.map_eq_some_iff.mp hx;obtain⟨hj1,hj2⟩:=List.getElem?_eq_some_iff.mp hj;have ej:i=j:=by simpa using hj2
    subst ej;obtain⟨tk',e⟩:=hit.2 i u (by simpa using hu);exact⟨tk',by rw [e];congr 1;omega⟩
   refine⟨.ref (s1.heap.push { cls:=.type "range",data:=.fields #[.int 0 s1.toks,.int n t,.int 1 (s1.toks+1)] }).objs.size,_,I2.laid (t':=tk) (o:=.lst (AS n)) kp (Mb _) ⟨?_,acc.toList,c,hv,?_⟩,rfl,q _ _ fr (Ext.new fr) ag⟩
   ·unfold AS;rw [length_map,length_range];exact aC (by omega)
   ·exact hget
 ·exact q1.elim
end
theorem fT{n:Nat}(h:n+64 < cLine):n+1 < cLine:=by omega
def Jt(Q:VK)(x:V):VK:=λ y H=>∃ a v,x=.ref a/\uo H a y (some v)/\Q v H
def Lh(ty:TE)(σ:St)(Q:VK):VK:=λ x H=>ty σ H (Jt Q x)
theorem Hz(ty:TE)(σ:St)(Q:VK)(x:V)(H:Hp):Lh ty σ Q x H=ty σ H (Jt Q x):=rfl
theorem Dl(td ty:TE)(σ:St)(H:Hp)(Q:VK):E8 td ty σ H Q=td σ H (Lh ty σ Q):=rfl
theorem kP{H:Hp}{a:Addr}{kvs:List (Key × V)}{k:Key}{v:V}{Q:VK}(e:H a=some (.dK kvs))(h:eT kvs k=some v)(q:Q v H):Jt Q (.ref a) (kV k) H:=⟨a,v,rfl,h ▸ uo.k e,q⟩
def IZ(neg:Bool):R2:=λ y x H Q=>∃ a o,x=.ref a/\uo H a y o/\Q (.bl (if neg=true then !o.isSome else o.isSome)) H
theorem fS{neg:Bool}{H:Hp}{a:Addr}{kvs:List (Key × V)}{k:Key}{Q:VK}(e:H a=some (.dK kvs))(q:Q (.bl (if neg=true then !(eT kvs k).isSome else (eT kvs k).isSome)) H):IZ neg (kV k) (.ref a) H Q:=⟨a,_,rfl,uo.k e,q⟩
section
variable {X:Cx}
theorem Bg(hu:X.A.units+1 < cLine):OpR X (compareOp .In) (IZ false):=by
 intro pins s σ H x y v u Q I rx ry h;obtain⟨a,o,rfl,g,q⟩:=h;obtain rfl:u=Value.ref a:=ry;exact LU hu I g rx λ s3 I3=>⟨.bl o.isSome,H,I3,rfl,q⟩
theorem wJ(hu:X.A.units+1 < cLine):OpR X (compareOp .NotIn) (IZ true):=by
 intro pins s σ H x y v u Q I rx ry h;obtain⟨a,o,rfl,g,q⟩:=h;obtain rfl:u=Value.ref a:=ry;exact ED hu I g rx λ s3 I3=>⟨.bl (!o.isSome),H,I3,rfl,q⟩
end
def Jr(nx:St->Hp->Prop)(σ:St)(v x:V):VK:=λ y H=>∃ a H4,x=.ref a/\EN H a y v H4/\nx σ H4
def Js(ty:TE)(nx:St->Hp->Prop)(σ:St)(v:V):VK:=λ x H=>ty σ H (Jr nx σ v x)
theorem Hx(ty:TE)(nx:St->Hp->Prop)(σ:St)(v x:V)(H:Hp):Js ty nx σ v x H=ty σ H (Jr nx σ v x):=rfl
def Lg(td ty:TE)(nx:St->Hp->Prop)(σ:St):VK:=λ v H=>td σ H (Js ty nx σ v)
theorem Hy(td ty:TE)(nx:St->Hp->Prop)(σ:St)(v:V)(H:Hp):Lg td ty nx σ v H=td σ H (Js ty nx σ v):=rfl
theorem Dr(td ty tv:TE)(nx:St->Hp->Prop)(rt:VK)(bk ct:St->Hp->Prop)(σ:St)(H:Hp):Fd td ty tv ⟨nx,rt,bk,ct⟩ σ H=tv σ H (Lg td ty nx σ):=rfl
theorem gG{H:Hp}{a:Addr}{kvs:List (Key × V)}{k:Key}{v:V}{nx:St->Hp->Prop}{σ:St}(e:H a=some (.dK kvs))(hl:kvs.length < sizeLine)(q:nx σ (upd H a (.dK (ky kvs k v)))):Jr nx σ v (.ref a) (kV k) H:=⟨a,_,rfl,EN.k e hl,q⟩
section
variable {X:Cx}
end
def tV(i:Nat):TE:=λ σ H Q=>match σ[i]? with
 | some (some v)=>Q v H
 | _=>False
theorem E2(i:Nat):Ip i=tV i:=by
 funext σ H Q;refine propext ⟨λ ⟨v,e,q⟩=>?_,λ h=>?_⟩
 ·unfold tV;rw [e];exact q
 ·unfold tV at h;split at h
  ·rename_i v e;exact⟨v,e,h⟩
  ·exact h.elim
theorem GI{v:V}{σ:St}{H:Hp}{Q:VK}:tV 0 (some v::σ) H Q=Q v H:=rfl
theorem GH{a0:Option V}{v:V}{σ:St}{H:Hp}{Q:VK}:tV 1 (a0::some v::σ) H Q=Q v H:=rfl
theorem GG{a0 a1:Option V}{v:V}{σ:St}{H:Hp}{Q:VK}:tV 2 (a0::a1::some v::σ) H Q=Q v H:=rfl
theorem GF{a0 a1 a2:Option V}{v:V}{σ:St}{H:Hp}{Q:VK}:tV 3 (a0::a1::a2::some v::σ) H Q=Q v H:=rfl
theorem GD{a0 a1 a2 a3:Option V}{v:V}{σ:St}{H:Hp}{Q:VK}:tV 4 (a0::a1::a2::a3::some v::σ) H Q=Q v H:=rfl
theorem GC{a0 a1 a2 a3 a4:Option V}{v:V}{σ:St}{H:Hp}{Q:VK}:tV 5 (a0::a1::a2::a3::a4::some v::σ) H Q=Q v H:=rfl
theorem GB{a0 a1 a2 a3 a4 a5:Option V}{v:V}{σ:St}{H:Hp}{Q:VK}:tV 6 (a0::a1::a2::a3::a4::a5::some v::σ) H Q=Q v H:=rfl
theorem GA{a0 a1 a2 a3 a4 a5 a6:Option V}{v:V}{σ:St}{H:Hp}{Q:VK}:tV 7 (a0::a1::a2::a3::a4::a5::a6::some v::σ) H Q=Q v H:=rfl
theorem Gz{a0 a1 a2 a3 a4 a5 a6 a7:Option V}{v:V}{σ:St}{H:Hp}{Q:VK}:tV 8 (a0::a1::a2::a3::a4::a5::a6::a7::some v::σ) H Q=Q v H:=rfl
theorem Gy{a0 a1 a2 a3 a4 a5 a6 a7 a8:Option V}{v:V}{σ:St}{H:Hp}{Q:VK}:tV 9 (a0::a1::a2::a3::a4::a5::a6::a7::a8::some v::σ) H Q=Q v H:=rfl
theorem Dg{a0 a1 a2 a3 a4 a5 a6 a7 a8 a9:Option V}{v:V}{σ:St}{H:Hp}{Q:VK}:tV 10 (a0::a1::a2::a3::a4::a5::a6::a7::a8::a9::some v::σ) H Q=Q v H:=rfl
theorem Df{a0 a1 a2 a3 a4 a5 a6 a7 a8 a9 a10:Option V}{v:V}{σ:St}{H:Hp}{Q:VK}:tV 11 (a0::a1::a2::a3::a4::a5::a6::a7::a8::a9::a10::some v::σ) H Q=Q v H:=rfl
theorem De{a0 a1 a2 a3 a4 a5 a6 a7 a8 a9 a10 a11:Option V}{v:V}{σ:St}{H:Hp}{Q:VK}:tV 12 (a0::a1::a2::a3::a4::a5::a6::a7::a8::a9::a10::a11::some v::σ) H Q=Q v H:=rfl
def nI0(g:Int->Int->V):R2:=λ x y H Q=>match x,y with
 | .int i,.int j=>Q (g i j) H
 | _,_=>False
theorem Kb(g:Int->Int->V)(i j:Int)(H:Hp)(Q:VK):nI0 g (.int i) (.int j) H Q=Q (g i j) H:=rfl
theorem kS(g:Int->Int->V):rI0 g=nI0 g:=by
 funext x y H Q;refine propext ⟨λ ⟨i,j,e,e',q⟩=>by subst e e';exact q,λ h=>?_⟩;unfold nI0 at h;split at h
 ·exact⟨_,_,rfl,rfl,h⟩
 ·exact h.elim
def nI(C:Int->Int->Prop)(g:Int->Int->V):R2:=λ x y H Q=>match x,y with
 | .int i,.int j=>C i j/\Q (g i j) H
 | _,_=>False
theorem LN(C:Int->Int->Prop)(g:Int->Int->V)(i j:Int)(H:Hp)(Q:VK):nI C g (.int i) (.int j) H Q=(C i j/\Q (g i j) H):=rfl
theorem uy(C:Int->Int->Prop)(g:Int->Int->V):rI C g=nI C g:=by
 funext x y H Q;refine propext ⟨λ ⟨i,j,e,e',q⟩=>by subst e e';exact q,λ h=>?_⟩;unfold nI at h;split at h
 ·exact⟨_,_,rfl,rfl,h⟩
 ·exact h.elim
def nU(g:Int->V):V->Hp->VK->Prop:=λ x H Q=>match x with
 | .int i=>Q (g i) H
 | _=>False
theorem LM(g:Int->V)(i:Int)(H:Hp)(Q:VK):nU g (.int i) H Q=Q (g i) H:=rfl
theorem JU(g:Int->V):rU g=nU g:=by
 funext x H Q;refine propext ⟨λ ⟨i,e,q⟩=>by subst e;exact q,λ h=>?_⟩;unfold nU at h;split at h
 ·exact⟨_,rfl,h⟩
 ·exact h.elim
def kU(Q:Bool->Hp->Prop):VK:=λ x H=>match x with
 | .bl k=>Q k H
 | _=>False
theorem zW(Q:Bool->Hp->Prop)(k:Bool)(H:Hp):kU Q (.bl k) H=Q k H:=rfl
theorem Ap(Q:Bool->Hp->Prop):Fq Q=kU Q:=by
 funext x H;refine propext ⟨λ ⟨k,e,q⟩=>by subst e;exact q,λ h=>?_⟩;unfold kU at h;split at h
 ·exact⟨_,rfl,h⟩
 ·exact h.elim
def pG(t:TE):TT:=λ σ H Q=>t σ H (kU Q)
theorem Dx(t:TE)(σ:St)(H:Hp)(Q:Bool->Hp->Prop):pG t σ H Q=t σ H (kU Q):=rfl
theorem iY(t:TE):yK t=pG t:=by
 funext σ H Q
 show t σ H (Fq Q)=t σ H (kU Q)
 rw [Ap]
theorem wQ(t:TE):tB t=pG t:=iY t
def uE(tb:TE)(σ:St)(Q:VK):VK:=λ x H=>match x with
 | .bl c=>if c=true then tb σ H Q else Q (.bl false) H
 | _=>False
theorem DZ(tb:TE)(σ:St)(Q:VK)(c:Bool)(H:Hp):uE tb σ Q (.bl c) H=(if c=true then tb σ H Q else Q (.bl false) H):=rfl
def B4(ta tb:TE):TE:=λ σ H Q=>ta σ H (uE tb σ Q)
theorem DE(ta tb:TE)(σ:St)(H:Hp)(Q:VK):B4 ta tb σ H Q=ta σ H (uE tb σ Q):=rfl
theorem zL(ta tb:TE):Fb ta tb=B4 ta tb:=by
 funext σ H Q
 show ta σ H (KC tb σ Q)=ta σ H (uE tb σ Q)
 congr 1;funext x H;refine propext ⟨λ ⟨k,e,q⟩=>by subst e;exact q,λ h=>?_⟩;unfold uE at h;split at h
 ·exact⟨_,rfl,h⟩
 ·exact h.elim
def uA(Q:VK):VK:=λ x H=>match x with
 | .bl c=>Q (.bl (!c)) H
 | _=>False
theorem DL(Q:VK)(c:Bool)(H:Hp):uA Q (.bl c) H=Q (.bl (!c)) H:=rfl
def B0(ta:TE):TE:=λ σ H Q=>ta σ H (uA Q)
theorem Dz(ta:TE)(σ:St)(H:Hp)(Q:VK):B0 ta σ H Q=ta σ H (uA Q):=rfl
theorem zK(ta:TE):E4 ta=B0 ta:=by
 funext σ H Q
 show ta σ H (Kx Q)=ta σ H (uA Q)
 congr 1;funext x H;refine propext ⟨λ ⟨k,e,q⟩=>by subst e;exact q,λ h=>?_⟩;unfold uA at h;split at h
 ·exact⟨_,rfl,h⟩
 ·exact h.elim
def sj(r':R2)(tc:TE)(σ:St)(y:V)(Q:VK):VK:=λ z H=>match z with
 | .bl k=>if k=true then tc σ H (II r' y Q) else Q (.bl false) H
 | _=>False
theorem DV(r':R2)(tc:TE)(σ:St)(y:V)(Q:VK)(k:Bool)(H:Hp):sj r' tc σ y Q (.bl k) H=(if k=true then tc σ H (II r' y Q) else Q (.bl false) H):=rfl
theorem Eg(r':R2)(tc:TE)(σ:St)(y:V)(Q:VK):Jv r' tc σ y Q=sj r' tc σ y Q:=by
 funext z H;refine propext ⟨λ ⟨k,e,q⟩=>by subst e;exact q,λ h=>?_⟩;unfold sj at h;split at h
 ·exact⟨_,rfl,h⟩
 ·exact h.elim
def yT(r r':R2)(tc:TE)(σ:St)(x:V)(Q:VK):VK:=λ y H=>r x y H (sj r' tc σ y Q)
theorem DW(r r':R2)(tc:TE)(σ:St)(x y:V)(Q:VK)(H:Hp):yT r r' tc σ x Q y H=r x y H (sj r' tc σ y Q):=rfl
def yU(r r':R2)(tb tc:TE)(σ:St)(Q:VK):VK:=λ x H=>tb σ H (yT r r' tc σ x Q)
theorem DX(r r':R2)(tb tc:TE)(σ:St)(Q:VK)(x:V)(H:Hp):yU r r' tb tc σ Q x H=tb σ H (yT r r' tc σ x Q):=rfl
def qM(r r':R2)(ta tb tc:TE):TE:=λ σ H Q=>ta σ H (yU r r' tb tc σ Q)
theorem zV(r r':R2)(ta tb tc:TE)(σ:St)(H:Hp)(Q:VK):qM r r' ta tb tc σ H Q=ta σ H (yU r r' tb tc σ Q):=rfl
theorem og(r r':R2)(ta tb tc:TE):uL r r' ta tb tc=qM r r' ta tb tc:=by
 funext σ H Q
 show ta σ H (LS r r' tb tc σ Q)=ta σ H (yU r r' tb tc σ Q)
 congr 1;funext x H1
 show tb σ H1 (Li r r' tc σ x Q)=tb σ H1 (yT r r' tc σ x Q)
 congr 1;funext y H2
 show r x y H2 (Jv r' tc σ y Q)=r x y H2 (sj r' tc σ y Q)
 rw [Eg]
def yW:TGs:=λ vs σ H Q=>match vs with
 | []=>Q σ H
 | _=>False
theorem D9(σ:St)(H:Hp)(Q:St->Hp->Prop):yW [] σ H Q=Q σ H:=rfl
theorem El:Lr=yW:=by
 funext vs σ H Q;refine propext ⟨λ ⟨e,q⟩=>by subst e;exact q,λ h=>?_⟩;unfold yW at h;split at h
 ·exact⟨rfl,h⟩
 ·exact h.elim
def qS(t:TG)(u:TGs):TGs:=λ vs σ H Q=>match vs with
 | v::r=>t v σ H (kGs u r Q)
 | _=>False
theorem Ac(t:TG)(u:TGs)(v:V)(r:List V)(σ:St)(H:Hp)(Q:St->Hp->Prop):qS t u (v::r) σ H Q=t v σ H (kGs u r Q):=rfl
theorem AA(t:TG)(u:TGs):FA t u=qS t u:=by
 funext vs σ H Q;refine propext ⟨λ ⟨v,r,e,q⟩=>by subst e;exact q,λ h=>?_⟩;unfold qS at h;split at h
 ·exact⟨_,_,rfl,h⟩
 ·exact h.elim
theorem g9{α0:Type}{f:α0->List V}{B:α0->Prop}(inj:∀ a a',f a=f a'->a=a')(a:α0):(∃ a',f a=f a'/\B a')=B a:=propext ⟨λ ⟨a',e,q⟩=>by obtain rfl:=inj _ _ e;exact q,λ q=>⟨a,rfl,q⟩⟩
theorem gb{α0:Type}{f:α0->List V}{B:α0->Prop}{vs:List V}{n:Nat}(h:∃ a,vs=f a/\B a)(l:∀ a,(f a).length=n):vs.length=n:=by
 obtain⟨_,rfl,_⟩:=h;exact l _
theorem ug{α0 α1:Type}{f:α0->α1->List V}{B:α0->α1->Prop}(inj:∀ a b a' b',f a b=f a' b'->a=a'/\b=b')(a:α0)(b:α1):(∃ a' b',f a b=f a' b'/\B a' b')=B a b:=propext ⟨λ ⟨a',b',e,q⟩=>by obtain⟨rfl,rfl⟩:=inj _ _ _ _ e;exact q,λ q=>⟨a,b,rfl,q⟩⟩
theorem uh{α0 α1:Type}{f:α0->α1->List V}{B:α0->α1->Prop}{vs:List V}{n:Nat}(h:∃ a b,vs=f a b/\B a b)(l:∀ a b,(f a b).length=n):vs.length=n:=by
 obtain⟨_,_,rfl,_⟩:=h;exact l _ _
theorem yD{α0 α1 α2:Type}{f:α0->α1->α2->List V}{B:α0->α1->α2->Prop}(inj:∀ a b c a' b' c',f a b c=f a' b' c'->a=a'/\b=b'/\c=c')(a:α0)(b:α1)(c:α2):(∃ a' b' c',f a b c=f a' b' c'/\B a' b' c')=B a b c:=propext ⟨λ ⟨a',b',c',e,q⟩=>by obtain⟨rfl,rfl,rfl⟩:=inj _ _ _ _ _ _ e;exact q,λ q=>⟨a,b,c,rfl,q⟩⟩
theorem yE{α0 α1 α2:Type}{f:α0->α1->α2->List V}{B:α0->α1->α2->Prop}{vs:List V}{n:Nat}(h:∃ a b c,vs=f a b c/\B a b c)(l:∀ a b c,(f a b c).length=n):vs.length=n:=by
 obtain⟨_,_,_,rfl,_⟩:=h;exact l _ _ _
theorem LB{α0 α1 α2 α3:Type}{f:α0->α1->α2->α3->List V}{B:α0->α1->α2->α3->Prop}(inj:∀ a b c d a' b' c' d',f a b c d=f a' b' c' d'->a=a'/\b=b'/\c=c'/\d=d')(a:α0)(b:α1)(c:α2)(d:α3):(∃ a' b' c' d',f a b c d=f a' b' c' d'/\B a' b' c' d')=B a b c d:=propext ⟨λ ⟨a',b',c',d',e,q⟩=>by obtain⟨rfl,rfl,rfl,rfl⟩:=inj _ _ _ _ _ _ _ _ e;exact q,λ q=>⟨a,b,c,d,rfl,q⟩⟩
theorem LC{α0 α1 α2 α3:Type}{f:α0->α1->α2->α3->List V}{B:α0->α1->α2->α3->Prop}{vs:List V}{n:Nat}(h:∃ a b c d,vs=f a b c d/\B a b c d)(l:∀ a b c d,(f a b c d).length=n):vs.length=n:=by
 obtain⟨_,_,_,_,rfl,_⟩:=h;exact l _ _ _ _
theorem LQ{P:List Value->Prop}(h:P []):∀ us:List Value,us.length=0->P us:=λ us e=>by
 cases us with
 | nil=>exact h
 | cons a r=>cases e
theorem eU{P:List Value->Prop}(h:∀ a,P [a]):∀ us:List Value,us.length=1->P us:=λ us e=>by
 cases us with
 | nil=>cases e
 | cons x r=>exact LQ (P:=λ r=>P (x::r)) (h x) r (OY e)
theorem qH{P:List Value->Prop}(h:∀ a b,P [a,b]):∀ us:List Value,us.length=2->P us:=λ us e=>by
 cases us with
 | nil=>cases e
 | cons x r=>exact eU (P:=λ r=>P (x::r)) (h x) r (OY e)
theorem uk{P:List Value->Prop}(h:∀ a b c,P [a,b,c]):∀ us:List Value,us.length=3->P us:=λ us e=>by
 cases us with
 | nil=>cases e
 | cons x r=>exact qH (P:=λ r=>P (x::r)) (h x) r (OY e)
theorem LP{P:List Value->Prop}(h:∀ a b c d,P [a,b,c,d]):∀ us:List Value,us.length=4->P us:=λ us e=>by
 cases us with
 | nil=>cases e
 | cons x r=>exact uk (P:=λ r=>P (x::r)) (h x) r (OY e)
section
variable {X:Cx}
theorem pvN(i:Nat){x:Str}{pos:Pos}(hN:X.N[i]? = some x:=by rfl)(hv:Vis X.env.scope x:=by first|exact Or.inl rfl|exact Or.inr (Or.inl rfl)|exact Or.inr (Or.inr rfl))(hd:(x == ("__debug__":Str))=false:=by decide)
  (hcd:(x == ("__classdict__":Str))=false:=by decide):PE X (.Name x pos) (tV i):=by rw [←E2];exact pv i hN hv hd hcd
theorem bB:OpR X (binaryOp .Add) (nI0 λ i j=>.int (i+j)):=by rw [←kS];exact qL
theorem fV:OpR X (binaryOp .Sub) (nI0 λ i j=>.int (i - j)):=by rw [←kS];exact Gj
theorem BY:OpR X (compareOp .Lt) (nI0 λ i j=>.bl (decide (i < j))):=by rw [←kS];exact Fg
theorem ux:OpR X (compareOp .LtE) (nI0 λ i j=>.bl (decide (i<=j))):=by rw [←kS];exact JM
theorem pF:OpR X (compareOp .Gt) (nI0 λ i j=>.bl (decide (j < i))):=by rw [←kS];exact Fh
theorem Fi:OpR X (compareOp .GtE) (nI0 λ i j=>.bl (decide (j<=i))):=by rw [←kS];exact JN
theorem fW:OpR X (binaryOp .Mult) (nI uf λ i j=>.int (i * j)):=by rw [←uy];exact iB
theorem CW:OpR X (binaryOp .Mult) (nI Ce λ i j=>.int (i * j)):=by rw [←uy];exact CS
theorem gm:OpR X (binaryOp .FloorDiv) (nI JG λ i j=>.int (i / j)):=by rw [←uy];exact CT
theorem gH:OpR X (binaryOp .Mod) (nI (λ _ j=>0 < j) λ i j=>.int (i % j)):=by rw [←uy];exact i9
theorem uZ:OpR X (binaryOp .Pow) (nI JF λ i j=>.int (i ^ j.toNat)):=by rw [←uy];exact Gn
theorem jd:UnR X (unaryOp .USub) (nU λ i=>.int (-i)):=by rw [←JU];exact FG
variable {a b c d e:Expr}{ta tb tc td t:TE}{pos:Pos}
theorem zx{op:CmpOp}{r:R2}(ho:OpR X (compareOp op) r)(ha:PE X a ta)(hb:PE X b tb)(hm:behindInMarks op b=false):PT X (.Compare a [op] [b] pos) (pG (tOp r ta tb)):=by rw [←iY];exact pY ho ha hb hm
theorem Cy(h:PE X e t)(he:∀ whole,isTrue e X.env whole=(do let v ←whole;standAt e.pos;holding [v] (truthy v)):=by intro _;rfl):PT X e (pG t):=by rw [←wQ];exact FR h he
theorem wI{op op':CmpOp}{r r':R2}(ho:OpR X (compareOp op) r)(ho':OpR X (compareOp op') r')(ha:PE X a ta)(hb:PE X b tb)(hc:PE X c tc)
  (hm:lastMarks [op,op'] [b,c]=false:=by with_unfolding_all rfl):PE X (.Compare a [op,op'] [b,c] pos) (qM r r' ta tb tc):=by rw [←og];exact zG ho ho' ha hb hc hm
theorem wB{op op':CmpOp}{r r':R2}(ho:OpR X (compareOp op) r)(ho':OpR X (compareOp op') r')(ha:PE X a ta)(hb:PE X b tb)(hc:PE X c tc)
  (hm:lastMarks [op,op'] [b,c]=false:=by with_unfolding_all rfl):PT X (.Compare a [op,op'] [b,c] pos) (pG (qM r r' ta tb tc)):=by rw [←iY,←og];exact zy ho ho' ha hb hc hm
variable {cy:List Expr}
theorem CN(ha:PE X a ta)(hb:PE X (.BoolOp .And (b::cy) pos) tb):PE X (.BoolOp .And (a::b::cy) pos) (B4 ta tb):=by rw [←zL];exact Gg ha hb
theorem vH(ha:PE X a ta):PE X (.UnaryOp .Not a pos) (B0 ta):=by rw [←zK];exact FZ ha
theorem bw:PGs X [] yW:=by rw [←El];exact CG
theorem wF{e:Expr}{es:List Expr}{t:TG}{u:TGs}(h1:PG X e t)(h2:PGs X es u)
  (hs:(assignEach (e::es) X.env).map (·.2)=assign e X.env::(assignEach es X.env).map (·.2):=by rfl):PGs X (e::es) (qS t u):=by rw [←AA];exact zB h1 h2 hs
end
theorem Ie{c:TT}{t u:TS}{nx:St->Hp->Prop}{rt:VK}{bk ct:St->Hp->Prop}{σ:St}{H:Hp}(R:St->Hp->Prop)(h:∀ nx':St->Hp->Prop,(∀ σ' H',R σ' H'->nx' σ' H')->Ir c t u ⟨nx',rt,bk,ct⟩ σ H)(k:∀ σ' H',R σ' H'->nx σ' H'):Ir c t u ⟨nx,rt,bk,ct⟩ σ H:=h nx k
theorem JV{i:Nat}:ME (tV i):=by rw [←E2];exact Bl
theorem zN{t:TE}(h:ME t):MT (pG t):=by rw [←iY];exact vL h
def Jk(k:Int)(H:Hp)(Q:VK):List V->Prop:=λ xs=>0<=k/\k<=4096/\xs.length * k.toNat<=sizeLine/\nB (.lst (List.replicate k.toNat xs).flatten) H Q
theorem Hi(k:Int)(H:Hp)(Q:VK)(xs:List V):Jk k H Q xs=(0<=k/\k<=4096/\xs.length * k.toNat<=sizeLine/\nB (.lst (List.replicate k.toNat xs).flatten) H Q):=rfl
def Jg:R2:=λ x y H Q=>match x,y with
 | .ref l,.int k=>aX (aO H l) (Jk k H Q)
 | _,_=>False
theorem Hb(l:Addr)(k:Int)(H:Hp)(Q:VK):Jg (.ref l) (.int k) H Q=aX (aO H l) (Jk k H Q):=rfl
theorem lX{X:Cx}:OpR X (binaryOp .Mult) Jg:=Gk.mono λ x y H Q h=>by
 unfold Jg at h;split at h
 ·rename_i l k;obtain⟨xs,e,h0,h1,h2,q⟩:=ao h;exact⟨l,k,xs,rfl,rfl,di e,by omega,by omega,h2,q.to⟩
 ·exact h.elim
def Jo(neg:Bool)(x:V)(H:Hp)(Q:VK):List V->Prop:=λ xs=>gh x=true/\xs.all gh=true/\Q (.bl (if neg=true then !inV x xs else inV x xs)) H
theorem Ho(neg:Bool)(x:V)(H:Hp)(Q:VK)(xs:List V):Jo neg x H Q xs=(gh x=true/\xs.all gh=true/\Q (.bl (if neg=true then !inV x xs else inV x xs)) H):=rfl
def nIn(neg:Bool):R2:=λ x y H Q=>match y with
 | .ref p=>aX (cE H p) (Jo neg x H Q)
 | _=>False
theorem Ka(neg:Bool)(x:V)(p:Addr)(H:Hp)(Q:VK):nIn neg x (.ref p) H Q=aX (cE H p) (Jo neg x H Q):=rfl
theorem FO{K:W.Frag}{neg:Bool}{x y:V}{H:Hp}{Q:VK}(h:nIn neg x y H Q):rIn K neg x y H Q:=by
 unfold nIn at h;split at h
 ·rename_i p;obtain⟨xs,e,h1,h2,q⟩:=ao h;exact⟨p,xs,rfl,gP e,h1,h2,q⟩
 ·exact h.elim
theorem uY{X:Cx}:OpR X (compareOp .In) (nIn false):=wK.mono λ x y H Q h=>FO h
section
variable {X:Cx}
end
section
variable {prog:Program}{w:World}{A:Around}{E:Value->Shared->Prop}{s:Shared}
end
section
variable {X:Cx}
end
theorem vN:∀ {kvs:List (Key × V)}{xs:List (Key × Value)},KV kvs xs->∀ {i:Nat}{p:Key × V},kvs[i]? = some p->∃ q,xs[i]? = some q/\p.1=q.1/\bc p.2 q.2
 | _,_,.nil,i,q,h=>by simp at h
 | _::_,q::_,.cons h t,0,p,hq=>by cases hq;exact⟨q,rfl,h⟩
 | _::_,_::_,.cons h t,i+1,p,hq=>vN t (i:=i) (by simpa using hq)
def Itd(a:Addr)(ob:Obj)(kvs:List (Key × V)):It:=
 ⟨λ i H=>H a=some (.frz ob (.dK kvs))/\i < kvs.length,λ i H x H'=>H'=H/\∃ p,kvs[i]? = some p/\x=kV p.1,λ i H=>H a=some (.frz ob (.dK kvs))/\kvs.length<=i⟩
theorem zq:∀ {k:Key}{u:Value},pH k u=true->bc (kV k) u
 | .inl i,u,h=>by
  rcases aN h with ⟨j,t,e1,e2⟩|⟨j,t,e1,e2⟩
  ·cases e1;exact⟨t,e2⟩
  ·cases e1
 | .inr x,u,h=>by
  rcases aN h with ⟨j,t,e1,e2⟩|⟨j,t,e1,e2⟩
  ·cases e1
  ·cases e1;exact⟨t,e2⟩
def Lw(P:Program)(w:World)(ob:Obj)(vs:List (Key × Value))(ep:Nat):Prop:=∀ (h:Heap) (a:Addr),h.get? a=some ob->h.DictAt (bP P w) a vs ep
theorem wx{P:Program}{w:World}{K:W.Frag}{tg:Expr}(a it:Addr)(ob:Obj)(kvs:List (Key × V))(vs:List (Key × Value))(ep:Nat)(kx:KV kvs vs)(dx:Lw P w ob vs ep):AV P w K tg (Itd a ob kvs) [it] it (λ i h=>h.IsKeyIter it a i vs.length ep) where
 mem:=by simp
 obj:=λ i h st b hb=>by
  have e:b=it:=by simpa using hb
  subst e;obtain⟨o,e,c,d⟩:=st;exact⟨o,e,λ v z=>by rw [d] at z;cases z⟩
 keep:=λ i h h' st k=>st.at λ o e=>k it (by simp) o e
 item:=by
  intro X hP hw hK hc i pins s σ H E I hf st hg;subst hP hw hK;obtain⟨ha,hi⟩:=hg;have hob:=(show aV X.prog X.w H s.heap a (.frz ob (.dK kvs)) from I.hok a _ ha).1;have hlen:kvs.length=vs.length:=OG kx;obtain⟨q,hq,hk,hr⟩:=vN kx (L8 hi);obtain⟨f0,f1,f2,f3,f4,f5⟩:=hf it (by simp);refine wpAny_pyNext_dict_item st (dx _ a hob) hq λ key h' hkey st' hs'=>?_;have I1:Inv X pins σ H { s with heap:=h' }:=I.turned (t':=s.toks) (λ b o hb e=>hs'.extBut b o hb e) f0 f1 f3 f4 f5;obtain⟨o,e,c,d⟩:=id st';refine⟨key,rfl,yV (s:={ s with heap:=h' }) e c d (by decide) ⟨kV kvs[i].1,H,I1,?_,⟨rfl,kvs[i],L8 hi,rfl⟩,st',λ b hb=>(hf b hb).1⟩⟩;rw [hk];exact zq hkey
 done:=by
  intro X hP hw hK hc i pins s σ H E I hf st hg;subst hP hw hK;obtain⟨ha,hi⟩:=hg;have hob:=(show aV X.prog X.w H s.heap a (.frz ob (.dK kvs)) from I.hok a _ ha).1;have hlen:kvs.length=vs.length:=OG kx;obtain⟨f0,f1,f2,f3,f4,f5⟩:=hf it (by simp);exact wpAny_pyNext_dict_end (I.ok.hd hc) st (dx _ a hob) (by simp;omega) λ h' eb=>⟨rfl,I.turned (t':=s.toks) (λ b o hb e=>eb b o hb e) f0 f1 f3 f4 f5⟩
 self:=λ _ _ _ _ _ st h=>wpAny_pyIter_keyiter st h
def IE(R:It->Hp->Prop):VK:=λ x H1=>∃ a kvs,x=.ref a/\H1 a=some (.dK kvs)/\∀ ob,R (Itd a ob kvs) (upd H1 a (.frz ob (.dK kvs)))
def Fz(tl:TE):TI:=λ σ H R=>tl σ H (IE R)
theorem D6(tl:TE)(σ:St)(H:Hp)(R:It->Hp->Prop):Fz tl σ H R=tl σ H (IE R):=rfl
theorem lV{X:Cx}{tg l:Expr}{tl:TE}(hl:PE X l tl):PI X tg l (Fz tl):=by
 intro pins s σ H R I h;refine thn (hl pins s σ H _ I h) λ v s1 ⟨x,H1,I1,r1,q1⟩=>?_;obtain⟨a,kvs,e,ha,q⟩:=q1;subst e;cases r1;have hO:aV X.prog X.w H1 s1.heap a (.dK kvs):=I1.hok a _ ha;obtain⟨z0,lo,vs,kx,dd⟩:=id hO;obtain⟨ep,hat⟩:=dd.dictAt;obtain⟨ob,es,ho,cy⟩:=id hat;have dx:Lw X.prog X.w ob vs ep:=λ h b hb=>⟨ob,es,hb,cy⟩;have hO':aV X.prog X.w (upd H1 a (.frz ob (.dK kvs))) s1.heap a (.frz ob (.dK kvs)):=⟨ho,⟨z0,lo,vs,kx,dd⟩⟩;have I2:=I1.write (t':=s1.toks) (x:=a) (e:=a) (o:=.frz ob (.dK kvs)) (h':=s1.heap) (by rw [ha];trivial) (.inl rfl) (λ b u _ e=>e) ⟨ob,ho⟩ hO';refine wpAny_pyIter_dict lo hat ?_;refine⟨s1.heap.objs.size,[s1.heap.objs.size],_,_,_,rfl,I2.kept (t':=s1.toks) λ b o e=>Ma _ e,wx a _ ob kvs vs ep kx dx,⟨_,Mn _ rfl,rfl,rfl⟩,λ b hb=>?_,q ob⟩;have e:b=s1.heap.objs.size:=by simpa using hb
 subst e;exact I2.fpOk (Mb _) (I2.hok.fresh (Mb _))
theorem Inv.thaw{X:Cx}{pins:List (Addr × Obj)}{σ:St}{H:Hp}{s:Shared}{a:Addr}{ob:Obj}{kvs:List (Key × V)}(I:Inv X pins σ H s)(ha:H a=some (.frz ob (.dK kvs)))(hn:∀ o u,X.H₀ a ≠ some (.frz o u)):Inv X pins σ (upd H a (.dK kvs)) s:=by
 have ne:∀ b,H b=none->b ≠ a:=λ b e z=>by rw [z,ha] at e;cases e
 have keepN:∀ b,H b=none->upd H a (.dK kvs) b=none:=λ b e=>by rw [ae (ne b e)];exact e
 refine⟨I.ok,I.os,I.bare,⟨I.base.keep,I.base.slot,λ b o e n hx=>keepN b (I.base.free b o e n hx),I.base.there,λ b xs e=>?_,λ b o u e=>?_,λ b ps e=>?_⟩,I.loc,I.cell,keepN _ I.free,λ x c e=>keepN _ (I.freeC x c e),λ p hp=>?_,λ b u e=>?_,I.len⟩
 ·have h:=I.base.tups b xs e;rw [ae (λ z=>by rw [z,ha] at h;cases h)];exact h
 ·have h:=I.base.frzs b o u e;rw [ae (λ z=>hn o u (by rw [←z];exact e))];exact h
 ·obtain⟨m,h⟩:=I.base.tbls b ps e;exact⟨m,by rw [ae (λ z=>by rw [z,ha] at h;cases h)];exact h⟩
 ·obtain⟨h1,h2,h3⟩:=I.pin p hp;exact⟨h1,keepN _ h2,h3⟩
 ·have stay:∀ (c:Addr) (v:HO),aV X.prog X.w H s.heap c v->aV X.prog X.w (upd H a (.dK kvs)) s.heap c v:=λ c v x=>x.stay (λ _ _ _ q=>q) (λ d q=>by rw [ae (λ z=>by rw [z,ha] at q;cases q)];exact q) (λ d y q=>by rw [ae (λ z=>by rw [z,ha] at q;cases q)];exact q) λ d xs q=>by rw [ae (λ z=>by rw [z,ha] at q;cases q)];exact q
  by_cases hb:b=a
  ·subst hb;rw [ag] at e;cases e;exact stay _ _ (show aV X.prog X.w H s.heap b (.frz ob (.dK kvs)) from I.hok b _ ha).2
  ·rw [ae hb] at e;exact stay b u (I.hok b u e)
def pI(H:Hp)(Q:VK):VK:=λ v H'=>∃ a ob kvs kvs0,H a=some (.dK kvs0)/\H' a=some (.frz ob (.dK kvs))/\Q v (upd H' a (.dK kvs))
def Fj(t:TE):TE:=λ σ H Q=>t σ H (pI H Q)
theorem Dw(t:TE)(σ:St)(H:Hp)(Q:VK):Fj t σ H Q=t σ H (pI H Q):=rfl
theorem CI{X:Cx}{e:Expr}{t:TE}(h:PE X e t):PE X e (Fj t):=by
 intro pins s σ H Q I hh;refine thn (h pins s σ H _ I hh) λ u s1 ⟨v,H1,I1,r1,a,ob,kvs,kvs0,h0,hf,q⟩=>?_;exact⟨v,_,I1.thaw hf λ o w z=>(by have:=I.base.frzs a o w z;rw [h0] at this;cases this),r1,q⟩
theorem Ext.thaw{H H1:Hp}{a:Addr}{ob:Obj}{kvs:List (Key × V)}(ha:H a=some (.dK kvs))(e:Ext (upd H a (.frz ob (.dK kvs))) H1):Ext H (upd H1 a (.dK kvs)):=by
 have h1:∀ b,(H b).isSome=true->upd H1 a (.dK kvs) b=H b:=λ b hb=>by
  by_cases hba:b=a
  ·rw [hba,ag,ha]
  ·rw [ae hba,e.1 b (by rw [ae hba];exact hb),ae hba]
 refine⟨h1,λ K b xs h=>?_⟩
 rcases h with (h|⟨o,h⟩)|h
 ·exact .inl (.inl (by rw [h1 b (by rw [h];rfl)];exact h))
 ·exact .inl (.inr ⟨o,by rw [h1 b (by rw [h];rfl)];exact h⟩)
 ·exact .inr h
section
variable {k:Nat}{g:TG}{tt:TT}{te:TE}{σ:St}{Q:VK}{H:Hp}
theorem A4{a:Addr}{kvs:List (Key × V)}(c:Key × V->Bool)(f:Key × V->V)(ha:H a=some (.dK kvs))(hl:kvs.length<=sizeLine)
  (hs:∀ D ob z H' N1 N0,z∈kvs->H D=none->Ext (upd H a (.frz ob (.dK kvs))) H'->H' a=some (.frz ob (.dK kvs))->(c z=true->∀ H'',Ext H' H''->N1 (f z) H'')->(c z=false->∀ H'',Ext H' H''->N0 H'')->g (kV z.1) (List.replicate k none++σ) H' (kCm k tt te σ N1 N0))
  (hd:∀ D H',H D=none->Ext H H'->H' D=some (.lst ((kvs.filter c).map f))->Q (.ref D) H'):IE (pJ k g tt te σ (pI H Q)) (.ref a) H:=by
 refine⟨a,kvs,rfl,ha,λ ob=>?_⟩;have hfr:upd H a (.frz ob (.dK kvs)) a=some (.frz ob (.dK kvs)):=ag;refine bQ kvs c f (λ z x H'=>x=kV z.1/\H' a=some (.frz ob (.dK kvs))) (λ i z H' hz e=>?_) (λ H' e=>?_) hl (λ D z x H' N1 N0 hz hD e p k1 k0=>?_) λ D H' hD e hD'=>?_
 ·have h1:H' a=some (.frz ob (.dK kvs)):=by rw [e.1 a (by rw [hfr];rfl)];exact hfr
  refine⟨⟨h1,(L9.mp hz).1⟩,λ x H'' ⟨e1,p,hp,ex⟩=>?_⟩;rw [hz] at hp;cases hp;subst e1;exact⟨Ext.refl _,ex,h1⟩
 ·exact⟨by rw [e.1 a (by rw [hfr];rfl)];exact hfr,Mb _⟩
 ·obtain⟨rfl,hp⟩:=p;exact hs D ob z H' N1 N0 hz (by rwa [ae (λ z=>by rw [z,hfr] at hD;cases hD)] at hD) e hp k1 k0
 ·have hDa:D ≠ a:=λ z=>by rw [z,hfr] at hD;cases hD
  refine⟨a,ob,kvs,kvs,ha,by rw [e.1 a (by rw [hfr];rfl)];exact hfr,hd D _ (by rwa [ae hDa] at hD) (Ext.thaw ha e) (by rw [ae hDa];exact hD')⟩
end
structure IsC(K:W.Frag)(C:Addr):Prop where
 cl:Cls K C
 fc:W.findIn K (.ref C) "__class__"=some (some (.builtin "object.__class__"))
 ocs:W.specialIn K (.builtin "object.__class__") "__get__"=some (some (.builtin "getset_descriptor.__get__"))
 oct:W.takesIn K (.builtin "object.__class__")=some true
 mo:W.mroIn K C (.type "object")=some true
section
variable {X:Cx}
end
section
variable {prog:Program}{w:World}{A:Around}{E:Value->Shared->Prop}{K:Frag}{x C dx:Addr}{s:Shared}{name:Str}{v:Value}
end
section
variable {X:Cx}{e o value:Expr}{ta tv:TE}{f:Str}{pos pos':Pos}
end
open Sem (wp)
open AutoSeq1 (wpAny_loadPart')
section
variable {X:Cx}
end
def yY(o:Obj):Prop:=∃ vs,o.data=.fields vs/\vs[2]? = some .none
section
variable {prog:Program}{w:World}{A:Around}{E:Value->Shared->Prop}{s:Shared}
end
def Lu(X:Cx):Prop:=∃ (e:Addr) (oe:Obj) (u:HO),X.A.handled=some (.ref e)/\X.H₀ e=some (.frz oe u)/\yY oe
structure LZ(P:Program)(w:World)(K:W.Frag)(tg:Expr)(J:It)(fp:List Addr)(it:Addr)(tn:Nat->Heap->Prop):Prop where
 mem:it∈fp
 obj:∀ i h,tn i h->∀ b∈fp,∃ o,h.get? b=some o/\∀ v,o.data ≠ .cell v
 keep:∀ i h h',tn i h->(∀ b∈fp,∀ o,h.get? b=some o->h'.get? b=some o)->tn i h'
 item:∀ (X:Cx),X.prog=P->X.w=w->X.K=K->Lu X->∀ (i:Nat) (pins:List (Addr × Obj)) (s:Shared) (σ:St) (H:Hp) (E:Value->Shared->Prop),Inv X pins σ H s->(∀ b∈fp,kO X pins H b)->tn i s.heap->J.go i H →
  wpAny (model P w) X.A (pyNext (.ref it)) (λ r s1=>∃ u,r=some u /\
   wpAny (model P w) X.A (letOwnedTupleGo tg (.ref it) u) (λ _ s2=>∃ x H',Inv X pins σ H' s2/\bc x u/\J.yld i H x H'/\tn (i+1) s2.heap/\∀ b∈fp,H' b=none) E s1) E s
 done:∀ (X:Cx),X.prog=P->X.w=w->X.K=K->Lu X->∀ (i:Nat) (pins:List (Addr × Obj)) (s:Shared) (σ:St) (H:Hp) (E:Value->Shared->Prop),Inv X pins σ H s->(∀ b∈fp,kO X pins H b)->tn i s.heap->J.stop i H →
  wpAny (model P w) X.A (pyNext (.ref it)) (λ r s1=>r=none/\Inv X pins σ H s1) E s
section
variable {X:Cx}{tg:Expr}
end
structure KL(k:Nat)(e:Addr)(A:Around):Prop where
 hd:A.handled=some (.ref e)
 dp:A.depth+3 * k+5 < recursionLimit
 un:A.units+16 * k+200 < cLine
structure L4(P:Program)(w:World)(K:W.Frag)(mg:Str->Option Value)(base:Heap)(CX:CXT)(k:Nat)(f:Addr)(fd:FuncData)(ps:List Str)(sp:Sp):Prop where
 len:∀ vs H Q E,sp vs H Q E->vs.length=ps.length
 run:∀ (A:Around) (outer:List Env) (s:Shared) (H:Hp) (args:Args) (us:List Value) (vs:List V) (Q:VK) (E:XK) (e:Addr) (oe:Obj) (u:HO),KL k e A->H e=some (.frz oe u)->yY oe->ue P w K mg base A outer s H->BindsTo s fd args (ps.zip us)->br vs us->sp vs H Q E →
  codeAny (model P w) A (.call (.ref f) args) (CR CX outer P w H s Q E) s
section
variable {X:Cx}
end
section
variable {prog:Program}{w:World}{A:Around}{E:Value->Shared->Prop}{s:Shared}
structure Lz(z TI TO i j l:Addr)(f g e:List Addr):Prop where
 ti:TI ≠ z/\TI ≠ TO/\TI ≠ i/\TI ≠ j/\TI ≠ l
 zt:z ≠ TO
 zf:z ∉ f
 zg:z ∉ g
 ze:z ∉ e
 tf:TO ∉ f
 tg:TO ∉ g
 te:TO ∉ e
 ig:i ∉ g
 ie:i ∉ e
 jf:j ∉ f
 je:j ∉ e
 lf:l ∉ f
 lg:l ∉ g
variable {z TI TO i j l:Addr}{f g e:List Addr}{ti tj tl:Nat->Heap->Prop}{vi vj vl:Nat->Option Value}{k m n:Nat}{x y u a b c:Value}
end
section
variable {prog:Program}{w:World}{A:Around}{E:Value->Shared->Prop}{s:Shared}
end
section
variable {X:Cx}
end
section
variable {X:Cx}
end
def BL(X:Cx)(f:Value)(ks:List Str)(r:List V->List V->Hp->VK->Prop):Prop:=∀ pins s σ H vs us zs ws Q,Inv X pins σ H s->br vs us->br zs ws->r vs zs H Q->wpAny (model X.prog X.w) X.A (call f us (ks.zip ws)) (EP X pins σ Q) X.xe s
def Jy(r:List V->List V->Hp->VK->Prop)(Q:VK)(vs:List V):List V->Hp->Prop:=λ zs H=>r vs zs H Q
theorem HI(r:List V->List V->Hp->VK->Prop)(Q:VK)(vs zs:List V)(H:Hp):Jy r Q vs zs H=r vs zs H Q:=rfl
def Jz(r:List V->List V->Hp->VK->Prop)(tk:TA)(σ:St)(Q:VK):List V->Hp->Prop:=λ vs H=>tk σ H (Jy r Q vs)
theorem HJ(r:List V->List V->Hp->VK->Prop)(tk:TA)(σ:St)(Q:VK)(vs:List V)(H:Hp):Jz r tk σ Q vs H=tk σ H (Jy r Q vs):=rfl
def KW(r:List V->List V->Hp->VK->Prop)(t tk:TA):TE:=λ σ H Q=>t σ H (Jz r tk σ Q)
theorem GQ(r:List V->List V->Hp->VK->Prop)(t tk:TA)(σ:St)(H:Hp)(Q:VK):KW r t tk σ H Q=t σ H (Jz r tk σ Q):=rfl
theorem n9{X:Cx}{id:String}{x:Str}{p pos:Pos}{e:Expr}{es:List Expr}{kws:List Keyword}{ks:List Str}{r:List V->List V->Hp->VK->Prop}{t tk:TA}(hc:BL X (.builtin id) ks r)(hg:Gl X x)(hm:X.mg x=none)(hv:bootBuiltins x=some (.builtin id))(ha:PA X (e::es) t)(hk:PK X kws tk)(hn:x ≠ "__name__":=by decide)(hdb:(x == ("__debug__":Str))=false:=by decide)
  (hks:(backToKw pos (keywordEach kws X.env)).filterMap (·.1)=ks:=by rfl)
  (h1:backTo pos (starEach (e::es) X.env)=(false,eval e X.env)::backTo pos (starEach es X.env):=by rfl)
  (h2:(backTo pos (starEach (e::es) X.env)).any (·.1)=false:=by rfl)
  (h3:(backToKw pos (keywordEach kws X.env)).all (·.1.isSome)=true:=by rfl)
  (h4:(backToKw pos (keywordEach kws X.env)).any (·.1.isNone)=false:=by rfl):PE X (.Call (.Name x p) (e::es) kws pos) (KW r t tk):=by
 intro pins s σ H Q I h;refine Nb (fX I hg hm hv ?_ hn hdb);refine callWith_kw (thn (ha pos pins s σ H _ I h) λ us s1 ⟨vs,H1,I1,r1,q1⟩=>thn (hk pos pins s1 σ H1 _ I1 q1) λ ws s2 ⟨zs,H2,I2,r2,q2⟩=>?_) h1 h2 h3 h4;rw [hks];exact hc pins s2 σ H2 vs us zs ws Q I2 r1 r2 q2
theorem ll{prog:Program}{w:World}{A:Around}{E:Value->Shared->Prop}{s:Shared}{id:String}{b:Builtin}{xs:List Value}{kv:List (Str × Value)}{Q:Value->Shared->Prop}(hk:builtinKind id=none)(hp:plainId id=true)
  (hb:entryFor table id=some b) (ha:argsOk id ⟨xs,kv⟩)
  (hc:wpAny (model prog w) A.in1 (b ⟨xs,kv⟩) (λ fin z=>match fin with
   | .done f=>(match (Except.ok f:Result) with | .ok (.ret v)=>Q v z | .ok _=>False | .error e=>E e z)
   | .again c=>c.quiet=true/\codeAny (model prog w) A c (λ r z=>match r with | .ok (.ret v)=>Q v z | .ok _=>False | .error e=>E e z) z) E s) :
  wpAny (model prog w) A (call (.builtin id) xs kv) Q E s:=by
 refine NM (NC (args:=⟨xs,kv⟩) hp hb ?_);simp only [checkBuiltinCall,hk]
 cases hs:Manifest.signature? id with
 | none=>exact Mf hc
 | some sg=>
  simp only [argsOk,hs] at ha;have h2:Bind.checkArgs id sg ⟨xs,kv⟩=pure ():=ha;simp only [h2];exact Mf hc
section
variable {prog:Program}{w:World}{A:Around}{R:Result->Shared->Prop}{J:Addr}{fp wr:List Addr}{G:Array GenState->Array GenState->Prop}{n:Nat}{P:Nat->Value->Prop}{St:Nat->Shared->Prop}
end
section
variable {prog:Program}{w:World}{A:Around}{R:Result->Shared->Prop}{J:Addr}{fp wr:List Addr}{G:Array GenState->Array GenState->Prop}{n:Nat}{P:Nat->Value->Prop}{St:Nat->Shared->Prop}
theorem zO(kv:List (Str × Value))(W:WalksS prog w A.in1 J fp wr G n P St)(bt:Nat->Nat->Bool)(hcmp:CmpOf prog w A.in1 .Gt P bt)(D:Addr)(hD:D ∉ fp) :
  ∀ (k j:Nat) (s:Shared) (b:Value) (c:Nat),n - (j+1)=k->j+1<=n->St (j+1) s->P (argBest bt j) b->s.heap.get? D=some { cls:=.type "list",dict:=none,data:=.seq #[b,b] c,slots:=#[] } →
  (∀ v z,P (argBest bt (n - 1)) v->Moved (D::wr) G s z->R (.ok (.ret v)) z)->codeAny (model prog w) A (.builtin "max.loop" ⟨[.ref J,.none,.ref D],kv⟩) R s:=by
 have hDw:D ∉ wr:=λ h=>hD (W.sub _ h);have sub:∀ a∈wr,a∈D::wr:=λ a ha=>Mp _ ha;have nm:(toString "max" ++ toString ".loop":String) = "max.loop":=by decide
 have nD:∀ {a:Addr},a ∉ D::wr->D ≠ a:=λ ha h=>ha (by rw [h];exact Mx);intro k
 induction k with
 | zero=>
  intro j s b c hk hj st hb hg hR;have hjn:j+1=n:=by omega
  refine(Oa N7 ?_);rw [(ND MP _)]
  show wpAny _ A.in1 ((seqItems? (.ref D)) >>= _) _ _ s
  refine L7 (Oj hg rfl ?_)
  show wpAny _ A.in1 ((tryCatch (pyNext (.ref J)) _) >>= _) _ _ s
  refine L7 (M9 (W.done s _ _ (hjn ▸ st) λ z mv=>?_));have hg':=mv.heap D _ hDw hg
  show wpAny _ A.in1 ((updateSeq D (λ _=>#[])) >>= _) _ _ _
  refine L7 ?_;refine(N9 hg' rfl (L7 (Oh (Mf ?_))));exact hR b _ (by rw [←hjn];exact hb) ((mv.mono sub).then_heap (tk:=z.toks) (Mb _) λ a o ha e=>(MO _ _ (nD ha)).trans e)
 | succ k ih=>
  intro j s b c hk hj st hb hg hR;have hlt:j+1 < n:=by omega
  refine(Oa N7 ?_);rw [(ND MP _)]
  show wpAny _ A.in1 ((seqItems? (.ref D)) >>= _) _ _ s
  refine L7 (Oj hg rfl ?_)
  show wpAny _ A.in1 ((tryCatch (pyNext (.ref J)) _) >>= _) _ _ s
  refine L7 (M9 (W.item (j+1) s _ _ hlt st λ v z hP st' mv=>?_));have hg':=mv.heap D _ hDw hg
  show wpAny _ A.in1 ((tryCatch (holding [v,v] (richCompare .Gt v b >>= _)) _) >>= _) _ _ _
  refine L7 (M9 (M6 (L7 (hcmp (j+1) (argBest bt j) v b _ _ _ hP hb ?_))));refine(L7 (M6 (M8 ?_)));refine(L7 (Oh (Mf ?_)))
  cases hbt:bt (j+1) (argBest bt j) with
  | true=>
   simp only [if_true];refine L7 ?_;refine(N9 hg' rfl (L7 (Oh ?_)));rw [nm];refine Mf ⟨NV MP _,ih (j+1) _ v _ (by omega) hlt (W.frame _ z _ z.toks st' (Mb _) λ a ha o e=>?_) (by simp only [argBest,hbt,if_true];exact hP) (MV _ hg' rfl) λ v' z' hP' mv'=>?_⟩
   ·exact(MO _ _ (λ h:D=a=>hD (by rw [h];exact ha))).trans e
   ·exact hR v' z' hP' (Moved.trans W.gtrans ((mv.mono sub).then_heap (by first|exact Mb _|exact Nt _|omega) λ a o ha e=>(MO _ _ (nD ha)).trans e) mv')
  | false=>
   simp only [OP,if_false];refine(L7 (Oh ?_));rw [nm];refine Mf ⟨NV MP _,ih (j+1) _ b c (by omega) hlt st' (by simp only [argBest,hbt,OP,if_false];exact hb) hg' λ v' z' hP' mv'=>?_⟩;exact hR v' z' hP' (Moved.trans W.gtrans (mv.mono sub) mv')
theorem wR(d:Value)(W:WalksS prog w A.in1 J fp wr G n P St)(bt:Nat->Nat->Bool)(hcmp:CmpOf prog w A.in1 .Gt P bt)(D:Addr)(hD:D ∉ fp){s:Shared}{c:Nat}(st:St 0 s)
  (hg:s.heap.get? D=some { cls:=.type "list",dict:=none,data:=.seq #[] c,slots:=#[] })
  (h0:n=0->∀ z,Moved (D::wr) G s z->R (.ok (.ret d)) z) (hR:0 < n->∀ v z,P (argBest bt (n - 1)) v->Moved (D::wr) G s z->R (.ok (.ret v)) z):codeAny (model prog w) A (.builtin "max.loop" ⟨[.ref J,.none,.ref D],[("default",d)]⟩) R s:=by
 have hDw:D ∉ wr:=λ h=>hD (W.sub _ h);have sub:∀ a∈wr,a∈D::wr:=λ a ha=>Mp _ ha;have nm:(toString "max" ++ toString ".loop":String) = "max.loop":=by decide
 have nD:∀ {a:Addr},a ∉ D::wr->D ≠ a:=λ ha h=>ha (by rw [h];exact Mx);refine(Oa N7 ?_);rw [(ND MP _)]
 show wpAny _ A.in1 ((seqItems? (.ref D)) >>= _) _ _ s
 refine L7 (Oj hg rfl ?_)
 show wpAny _ A.in1 ((tryCatch (pyNext (.ref J)) _) >>= _) _ _ s
 by_cases hn:n=0
 ·refine L7 (M9 (W.done s _ _ (by rw [hn];exact st) λ z mv=>?_));refine L7 (wpAny_rule (Mf ?_));exact h0 hn z (mv.mono sub)
 ·refine L7 (M9 (W.item 0 s _ _ (by omega) st λ v z hP st' mv=>?_));have hg':=mv.heap D _ hDw hg
  show wpAny _ A.in1 ((updateSeq D (λ _=>#[v,v])) >>= _) _ _ _
  refine L7 ?_;refine(N9 hg' rfl ?_);rw [nm];refine Mf ⟨NV MP _,zO _ W bt hcmp D hD _ 0 _ v _ rfl (by omega) (W.frame _ z _ z.toks st' (Mb _) λ a ha o e=>?_) hP (MV _ hg' rfl) λ v' z' hP' mv'=>?_⟩
  ·exact(MO _ _ (λ h:D=a=>hD (by rw [h];exact ha))).trans e
  ·exact hR (by omega) v' z' hP' (Moved.trans W.gtrans ((mv.mono sub).then_heap (by first|exact Mb _|exact Nt _|omega) λ a o ha e=>(MO _ _ (nD ha)).trans e) mv')
end
theorem yy(a d:Value):argsOk "max" ⟨[a],[("default",d)]⟩:=by unfold argsOk;kernel_rfl
theorem yi{prog:Program}{w:World}{A:Around}{E:Value->Shared->Prop}{s:Shared}{x d:Value}{Q:Value->Shared->Prop}
  (h:wpAny (model prog w) A.in1 (pyIter x) (λ it z=>∃ J fp wr G n P St bt,it=.ref J/\WalksS prog w A.in1 J fp wr G n P St/\St 0 z/\(∀ b∈fp,b < z.heap.objs.size)/\CmpOf prog w A.in1 .Gt P bt /\
   (n=0->∀ z',Moved wr G z z'->Q d z')/\(0 < n->∀ v z',P (argBest bt (n - 1)) v->Moved wr G z z'->Q v z')) E s) :
  wpAny (model prog w) A (call (.builtin "max") [x] [("default",d)]) Q E s:=by
 have nm:(toString "max" ++ toString ".loop":String) = "max.loop":=by decide
 refine ll F.kind_max F.plain_max F.entry_max (yy x d) ?_
 show wpAny _ A.in1 (Builtin.Builtins.bindParams "max" ["key", "default"] 0 ⟨[],[("default",d)]⟩ >>= _) _ _ s
 refine L7 (wpAny_of_eq (show Builtin.Builtins.bindParams "max" ["key", "default"] 0 ⟨[],[("default",d)]⟩=pure [none,some d] from rfl) ?_);refine L7 (Mf ?_);refine L7 (thn h λ it z hz=>?_);obtain⟨J,fp,wr,G,n,P,St,bt,rfl,W,st,hfp,hcmp,h0,hQ⟩:=hz;refine L7 (OB ?_);have hD:z.heap.objs.size ∉ fp:=λ hm=>M5 _ (hfp _ hm);rw [nm];refine Mf ⟨NV MP _,wR d W bt hcmp z.heap.objs.size hD (W.frame 0 z _ z.toks st (Mb _) λ b _ o e=>Ma _ e) (Mn _ rfl) (λ hn z' mv=>?_) λ hn v z' hP mv=>?_⟩
 ·exact h0 hn z' (Moved.drop_new (tk:=z.toks) mv (Mb _))
 ·exact hQ hn v z' hP (Moved.drop_new (tk:=z.toks) mv (Mb _))
def u6(d:Int)(H:Hp)(Q:VK):List Int->Prop:=λ ns=>(ns=[]->Q (.int d) H)/\∀ M,M∈ns->(∀ a∈ns,a<=M)->Q (.int M) H
def BV:List V->List V->Hp->VK->Prop:=λ vs zs H Q=>match vs,zs with
 | [.ref p],[.int d]=>aX (aO H p) (lP (u6 d H Q))
 | _,_=>False
theorem Dv(p:Addr)(d:Int)(H:Hp)(Q:VK):BV [.ref p] [.int d] H Q=aX (aO H p) (lP (u6 d H Q)):=rfl
theorem lr{X:Cx}(hc:X.calm=true):BL X (.builtin "max") ["default"] BV:=by
 intro pins s σ H vs us zs ws Q I r rz h;unfold BV at h;split at h
 ·rename_i p d;obtain⟨xs,e,ns,rfl,h0,q⟩:=ao h
  cases rz with
  | cons rd rz'=>
  cases rz'
  cases r with
  | cons r rr=>
   cases rr;cases r;obtain⟨its,rv,pl,hz⟩:=I.list (SqL.of (di e));have hlt:p < s.heap.objs.size:=by obtain⟨_,e,_⟩:=pl.isList;exact Mc e
   have hlen:its.length=ns.length:=by have:=rv.length;simpa using this.symm
   have hsz:its.toArray.size=ns.length:=by simp [hlen]
   have hP:∀ (i:Nat) (v:Value),its.toArray[i]? = some v->∃ t,v=.int (ns.getD i 0) t:=λ i v hP=>by
    have hv:its[i]? = some v:=by simpa using hP
    have hi:i < ns.length:=by rw [←hlen];exact(L9.mp hv).1
    obtain⟨u,hu,ru⟩:=rv.get (i:=i) (x:=.int (ns.getD i 0)) (by rw [Mq,L8 hi];simp [List.getD,L8 hi]);rw [hv] at hu;cases hu;exact ru
   refine yi (NT pl.isList ⟨s.heap.objs.size,_,_,_,_,_,_,λ i j=>decide (ns.getD i 0 > ns.getD j 0),rfl,(Walks.list (show X.A.in1.handled=none from I.ok.hd hc) _ p (Ms hlt) its.toArray).toS,⟨⟨_,Mn _ rfl,rfl,rfl⟩,pl.isList.push _⟩,λ b hb=>?_,CmpOf.ints_gt (λ i=>ns.getD i 0) λ i v h=>hP i v h,λ hn s' hm=>?_,λ hn v s' hv hm=>?_⟩)
   ·rw [Na]
    rcases ML.mp hb with rfl|hb
    ·exact NF _
    ·rw [Mh.mp hb];exact OS hlt
   ·obtain⟨hp,g,d',tk,os⟩:=s'
    have kp:∀ b o,s.heap.get? b=some o->hp.get? b=some o:=λ b o e=>hm.heap b o (λ hmem=>by
     have:b=s.heap.objs.size:=by simpa using hmem
     subst this;exact absurd (Mc e) (M5 _)) (Ma _ e)
    have e1:g=s.gens:=hm.gens;have e2:d'=s.drawn:=hm.drawn;have e3:os=s.os:=hm.os;subst e1 e2 e3;exact⟨.int d,H,I.kept (t':=tk) kp,rd,h0 (Oc (by rw [←hsz];exact hn))⟩
   ·obtain⟨hp,g,d',tk,os⟩:=s'
    have kp:∀ b o,s.heap.get? b=some o->hp.get? b=some o:=λ b o e=>hm.heap b o (λ hmem=>by
     have:b=s.heap.objs.size:=by simpa using hmem
     subst this;exact absurd (Mc e) (M5 _)) (Ma _ e)
    have e1:g=s.gens:=hm.gens;have e2:d'=s.drawn:=hm.drawn;have e3:os=s.os:=hm.os;subst e1 e2 e3;obtain⟨b1,b2⟩:=argBest_gt (λ i=>ns.getD i 0) (its.toArray.size - 1);have rv2:=hP _ v hv;generalize argBest (λ i j=>decide (ns.getD i 0 > ns.getD j 0)) (its.toArray.size - 1)=k at b1 b2 rv2;rw [hsz] at b1 b2 hn;have hk:k < ns.length:=by omega
    refine⟨.int (ns.getD k 0),H,I.kept (t':=tk) kp,rv2,q _ ?_ λ a ha=>?_⟩
    ·rw [List.getD,L8 hk];exact NN hk
    ·obtain⟨j,hj,rfl⟩:=Nx ha;have:=b2 j (by omega);rw [show ns.getD j 0=ns[j] by rw [List.getD,L8 hj];rfl] at this;exact this
 ·exact h.elim
def bf(kv:List (Int × Int))(c:Int):Option Int:=(kv.find? λ p=>decide (p.1=c)).map λ p=>p.2
def b0(kv:List (Int × Int)):List (Key × V):=kv.map λ p=>(Sum.inl p.1,V.int p.2)
theorem xC{p:Int × Int}{r:List (Int × Int)}{c:Int}(e:p.1=c):bf (p::r) c=some p.2:=by simp [bf,Oe,e]
theorem xD{p:Int × Int}{r:List (Int × Int)}{c:Int}(e:¬ p.1=c):bf (p::r) c=bf r c:=by simp [bf,Oe,e]
theorem u9{a c:Int}(h:¬ a=c):¬ (Sum.inl a:Key)=Sum.inl c:=λ e=>h (Sum.inl.inj e)
theorem bj:∀ (kv:List (Int × Int)) (c:Int),eT (b0 kv) (.inl c)=(bf kv c).map V.int
 | [],c=>rfl
 | p::r,c=>by
  by_cases h:p.1=c
  ·rw [xC h];exact bC (p:=(Sum.inl p.1,V.int p.2)) (r:=b0 r) (NI Sum.inl h)
  ·rw [xD h,←bj r c];exact bD (p:=(Sum.inl p.1,V.int p.2)) (r:=b0 r) (u9 h)
theorem Cw{kv:List (Int × Int)}{c:Int}(v:Int)(h:bf kv c=none):ky (b0 kv) (.inl c) (.int v)=b0 (kv++[(c,v)]):=by
 rw [zw _ (by rw [bj,h];rfl)];unfold b0;rw [map_append];rfl
abbrev PKy:=List Int × List Int
section
variable {prog:Program}{w:World}
end
section
variable {P:Program}{w:World}{H:Hp}{h:Heap}{a:Addr}
end
section
variable {X:Cx}{pins:List (Addr × Obj)}{σ:St}{H:Hp}{s:Shared}{d b:Addr}{k:PKy}{Z:List PKy}{A:Around}{E:Value->Shared->Prop}
end
section
variable {X:Cx}
end
section
variable {X:Cx}{e st:Expr}{te tst:TE}{pos p2:Pos}
end
section
variable {X:Cx}
end
section
variable {X:Cx}{a b:Expr}{ta tb:TE}{pos:Pos}{cy:List Expr}
end
open PySem.SeqAt
section
variable {X:Cx}
end
structure Mk0(K:W.Frag)(C:Addr):Prop where
 makes:W.makesIn K C=true
 init:W.findIn K (.ref C) "__init__"=some (some (.builtin "object.__init__"))
 kp:W.keepIn K (.ref C)=true
def K5(C:Addr):TE:=λ _ H Q=>∀ x dx H',H x=none->H dx=none->dx ≠ x->Ext H H'->H' x=some (.ins C dx [])->H' dx=some (.own x)->Q (.ref x) H'
theorem Hc(C:Addr)(σ:St)(H:Hp)(Q:VK):K5 C σ H Q=∀ x dx H',H x=none->H dx=none->dx ≠ x->Ext H H'->H' x=some (.ins C dx [])->H' dx=some (.own x)->Q (.ref x) H':=rfl
theorem hZ{X:Cx}{C:Addr}{x:Str}{p pos:Pos}(M:Mk0 X.K C)(hg:Gl X x)(hm:X.mg x=some (.ref C))(hdb:(x == ("__debug__":Str))=false:=by decide):PE X (.Call (.Name x p) [] [] pos) (K5 C):=by
 intro pins s σ H Q I h;refine Nb (eu I hg hm ?_ hdb);refine W.callWith_K0 I.kIn M.kp ?_;have hx:H (s.heap.objs.size+1)=none:=I.hok.fresh (Nt _);have hd:H s.heap.objs.size=none:=I.hok.fresh (Mb _);have ne:s.heap.objs.size ≠ s.heap.objs.size+1:=Ms (NF _);have hq:=h (s.heap.objs.size+1) s.heap.objs.size (upd (upd H s.heap.objs.size (.own (s.heap.objs.size+1))) (s.heap.objs.size+1) (.ins C s.heap.objs.size [])) hx hd ne ((Ext.new hd).put hx) ag (by rw [ae ne,ag]);have I2:=Inv.made (C:=C) I;refine NM (wW I.kIn M.makes M.init (λ self=>W.Looks.of_pure (W.oi_bind self)) ?_);have Y:=W.makes_of (M:=model X.prog X.w) I.kIn M.makes
 have e2:((s.heap.push W.emptyDict).push (W.instObj C s.heap.objs.size)).get? (s.heap.objs.size+1)=some (W.instObj C s.heap.objs.size):=by
  have:=Mn (s.heap.push W.emptyDict) (o:=W.instObj C s.heap.objs.size) rfl
  rwa [Na] at this
 have t1:W.Looks (model X.prog X.w) ((s.heap.push W.emptyDict).push (W.instObj C s.heap.objs.size)) (typeOf (.ref (s.heap.objs.size+1))) (.ref C):=(W.Looks.ld e2).andThen .now;have t2:W.Looks (model X.prog X.w) ((s.heap.push W.emptyDict).push (W.instObj C s.heap.objs.size)) (isInstance (.ref (s.heap.objs.size+1)) (.type "object")) true:=t1.andThen (Y.top.keeps λ b o e=>Ma _ (Ma _ e));refine NC W.oi_plain W.entry_oi (@W.check_slot (model X.prog X.w) _ _ _ "object.__init__" "object" "__init__" (.ref (s.heap.objs.size+1)) [] [] _ W.oi_kind W.oi_split t2 (W.oi_args (.ref (s.heap.objs.size+1))) ?_);rw [W.oi_run];exact Mf (And.intro rfl ⟨V.ref (s.heap.objs.size+1),_,I2,rfl,hq⟩)
structure MD(P:Program)(w:World)(K:W.Frag)(mg:Str->Option Value)(base:Heap)(CX:CXT)(k:Nat)(m:Str)(C:Addr)(sp:Sp):Prop where
 c:Cls K C
 ex:∃ f fd ps,kM K C m f/\aW P w K mg base CX k f fd ps sp/\az K fd ps []
def qQ(n:Nat)(cl:Nat->Addr)(m:Str)(sp:Nat->Sp)(E:XK)(Q:VK):VK:=λ x H=>∃ a i dx fs,x=.ref a/\i < n/\H a=some (.ins (cl i) dx fs)/\fs.lookup m=none/\sp i [.ref a] H Q E
def Bj(n:Nat)(cl:Nat->Addr)(m:Str)(sp:Nat->Sp)(E:XK)(ta:TE):TE:=λ σ H Q=>ta σ H (qQ n cl m sp E Q)
theorem zU(n:Nat)(cl:Nat->Addr)(m:Str)(sp:Nat->Sp)(E:XK)(ta:TE)(σ:St)(H:Hp)(Q:VK):Bj n cl m sp E ta σ H Q=ta σ H (qQ n cl m sp E Q):=rfl
theorem wG{X:Cx}{CX:CXT}{n k:Nat}{cl:Nat->Addr}{m:Str}{sp:Nat->Sp}{E:XK}{pos apos:Pos}{o:Expr}{ta:TE}{pl:Sem Bool}(he:PE X o ta)(hT:∀ i,i < n->MD X.prog X.w X.K X.mg X.base CX k m (cl i) (sp i))(hr:fE k X.A)(hx:iC CX X E)
  (ht:eval (.Call (.Attribute o m apos) [] [] pos) X.env=(do
   let ov ←eval o X.env
   standAt apos.atName
   let (f,first) ←holding [ov] (getMethod ov m pl)
   callWith pos f first (backTo pos (starEach [] X.env)) (backToKw pos (keywordEach [] X.env))):=by rfl) :
  PE X (.Call (.Attribute o m apos) [] [] pos) (Bj n cl m sp E ta):=by
 intro pins s σ H Q I h;refine W.methodCall_KW (pl:=pl) (thn (he pins s σ H _ I h) λ u s1 ⟨x,H1,I1,rx,q0⟩=>?_) ht;obtain⟨a,i,dx,fs,ex,hi,ea,l,q⟩:=q0;obtain⟨c,f,fd,ps,hm,F,hb⟩:=hT i hi;subst ex;obtain rfl:u=Value.ref a:=rx;refine k9 I1 ea c hm l ?_;refine W.callWith_K0 (first:=[.ref a]) I1.kIn hm.kp ?_;exact uU (us:=[.ref a]) (vs:=[.ref a]) F hr hb .nil hx I1 (.cons rfl .nil) q
section
variable {k:Nat}{g:TG}{tt:TT}{te:TE}{σ:St}{Q:VK}{H:Hp}
end
section
variable {X:Cx}
def qR(i:Nat)(tb:Addr->TS)(tr:Value->Option Addr->TS)(cls:Value)(d:Option Addr)(D:gF)(σ:St)(H:Hp):Bool->Prop:=λ b=>if b=true then ∀ (e:Addr) (oe:Obj),H e=none->oe.cls=cls->oe.dict=d->yY oe->dE i (.ref e) σ (upd H e (iK oe)) (B7 i (tb e) (D.del i)) else tr cls d D σ H
theorem zZ(i:Nat)(tb:Addr->TS)(tr:Value->Option Addr->TS)(cls:Value)(d:Option Addr)(D:gF)(σ:St)(H:Hp)(b:Bool):qR i tb tr cls d D σ H b=(if b=true then ∀ (e:Addr) (oe:Obj),H e=none->oe.cls=cls->oe.dict=d->yY oe->dE i (.ref e) σ (upd H e (iK oe)) (B7 i (tb e) (D.del i)) else tr cls d D σ H):=rfl
def A8(K:W.Frag)(C:Value)(i:Nat)(tb:Addr->TS)(tr:Value->Option Addr->TS):Value->Option Addr->TS:=λ cls d D σ H=>aX (W.exmOne K cls C) (qR i tb tr cls d D σ H)
theorem zR(K:W.Frag)(C:Value)(i:Nat)(tb:Addr->TS)(tr:Value->Option Addr->TS)(cls:Value)(d:Option Addr)(D:gF)(σ:St)(H:Hp):A8 K C i tb tr cls d D σ H=aX (W.exmOne K cls C) (qR i tb tr cls d D σ H):=rfl
theorem CF{x n:Str}{i:Nat}{np pos:Pos}{b₀:Stmt}{body:List Stmt}{cy:List ExceptHandler}{C:Value}{tb:Addr->TS}{tr:Value->Option Addr->TS}(hN:X.N.Nodup)(hi:X.N[i]? = some n)(hk:X.env.scope.names.lookup n=some .local)(hg:Gl X x)(hm:X.mg x=some C\/(X.mg x=none/\bootBuiltins x=some C/\x ≠ "__name__"))(hb:∀ e,PSs (X.mark e) (b₀::body) (tb e))(hr:PHs X cy tr)
  (hdb:(x == ("__debug__":Str))=false:=by decide):PHs X (.ExceptHandler (some (.Name x np)) (some n) (b₀::body) pos::cy) (A8 X.K C i tb tr):=by
 intro pins s σ H D e T cls d I N hn ex h;obtain⟨b,hx,h⟩:=ao h;have Im:=I.mark e
 have ld:∀ {Q:Value->Shared->Prop} {E:Value->Shared->Prop},Q C s->wpAny (model X.prog X.w) (X.A.mark (some (.ref e))) (eval (.Name x np) X.env) Q E s:=λ {Q E} q=>by
  rcases hm with z|⟨z1,z2,z3⟩
  ·exact eu (X:=X.mark e) Im hg z q hdb
  ·exact fX (X:=X.mark e) Im hg z1 z2 q z3 hdb
 refine PySem.wpAny_handleBy_cons (PySem.codeAny_handlers_test (ld ((W.exm_one I.kIn (Ig ex) hx).here ?_))) (by intro q;cases q);unfold qR at h
 cases b with
 | false=>
  rw [Mw Mj] at h;exact hr pins s σ H D e T cls d I N hn ex h
 | true=>
  rw [My rfl] at h;refine PySem.codeAny_handlers_suite_as (Ey ex λ h' kp=>?_);obtain⟨oe,vs,oT,ts,he,hc,hd,hdat,_,_,_,_,_,h2c⟩:=ex;have N':nF (X.mark e) pins e:=⟨N.s0,N.loc,N.cel,N.fs,N.pin⟩;have I':Inv (X.mark e) pins σ (upd H e (iK oe)) { s with heap:=h' }:=(Im.kept (t':=s.toks) kp).track N' (kp _ _ he) hn;refine mj (X:=X.mark e) I' hN hi (.inl hk) (show bc (.ref e) (.ref e) from rfl) (λ s1 I1=>?_) (.inr hk);have hh:tb e (D.del i) (σ.set i (some (.ref e))) (upd H e (iK oe)):=h e oe hn hc hd ⟨vs,hdat,h2c⟩;refine Nk (hb e pins s1 _ _ (D.del i) I1 hh) (λ f s2 q=>?_) λ _ _ z=>z.elim
  show wpAny _ X.A _ _ _ s2
  have q':=SP.unmark I.ok q
  cases f with
  | next=>obtain⟨σ',H',J,q⟩:=q';exact l6 J hi hk hN λ s3 J3=>⟨_,H',J3,q⟩
  | brk=>obtain⟨σ',H',J,q⟩:=q';exact l6 J hi hk hN λ s3 J3=>⟨_,H',J3,q⟩
  | cont=>obtain⟨σ',H',J,q⟩:=q';exact l6 J hi hk hN λ s3 J3=>⟨_,H',J3,q⟩
  | ret u=>obtain⟨v,σ',H',J,r,q⟩:=q';exact l6 J hi hk hN λ s3 J3=>⟨v,_,H',J3,r,q⟩
end
section
variable {X:Cx}{CX:CXT}{n k:Nat}{cl:Nat->Addr}{m:Str}{sp:Nat->Sp}{pos apos:Pos}{o e:Expr}{es:List Expr}{ta:TE}{t:TA}
end
section
variable {X:Cx}{CX:CXT}{k:Nat}{f C:Addr}{fd:FuncData}{ps:List Str}{sp:Sp}{dvs:List V}{ds:List Value}{E:St->XK}{x:Str}{p pos:Pos}{e:Expr}{es:List Expr}{t:TA}
end
section
variable {X:Cx}
end
section
variable {X:Cx}
end
section
variable {X:Cx}
end
section
variable {X:Cx}{tg:Expr}
end
section
variable {X:Cx}
end
end L2
namespace HT
open PySem PySem.Spec PyProof.Rows
section
variable {prog:Program}{w:World}{A:Around}{E:Value->Shared->Prop}{s:Shared}
end
end HT
namespace L2
open PySem PySem.Spec PyProof.Rows
section
variable {X:Cx}
end
section
variable {prog:Program}{w:World}{A:Around}{E:Value->Shared->Prop}{s:Shared}
end
section
variable {prog:Program}{w:World}{A:Around}{E:Value->Shared->Prop}{s:Shared}{a₀:Array Keyed}
end
section
variable {X:Cx}
end
section
variable {X:Cx}{k:Nat}{f:Addr}{fd:FuncData}{ps:List Str}{sp:Sp}
end
section
variable {n:Nat}(h0:0 < n)
include h0
end
section
variable {prog:Program}{w:World}{A:Around}{E:Value->Shared->Prop}{s:Shared}
end
def IA(H:Hp)(nx:St->Hp->Prop):St->Hp->Prop:=λ σ' H'=>∃ a ob kvs kvs0,H a=some (.dK kvs0)/\H' a=some (.frz ob (.dK kvs))/\nx σ' (upd H' a (.dK kvs))
def Fc(t:TS):TS:=λ D σ H=>t ⟨IA H D.nx,pI H D.rt,D.bk,D.ct⟩ σ H
theorem Dq(t:TS)(nx:St->Hp->Prop)(rt:VK)(bk ct:St->Hp->Prop)(σ:St)(H:Hp):Fc t ⟨nx,rt,bk,ct⟩ σ H=t ⟨IA H nx,pI H rt,bk,ct⟩ σ H:=rfl
theorem pZ{X:Cx}{st:Stmt}{t:TS}(h:PS X st t):PS X st (Fc t):=by
 intro pins s σ H D I hh;refine thn (h pins s σ H _ I hh) λ f s1 hs=>?_
 cases f with
 | next=>
  obtain⟨σ',H',I1,a,ob,kvs,kvs0,h0,hf,q⟩:=hs;exact⟨σ',_,I1.thaw hf λ o w z=>(by have:=I.base.frzs a o w z;rw [h0] at this;cases this),q⟩
 | brk=>exact hs
 | cont=>exact hs
 | ret u=>
  obtain⟨v,σ',H',I1,r1,a,ob,kvs,kvs0,h0,hf,q⟩:=hs;exact⟨v,σ',_,I1.thaw hf λ o w z=>(by have:=I.base.frzs a o w z;rw [h0] at this;cases this),r1,q⟩
section
variable {g:TG}{tb:TS}{nx:St->Hp->Prop}{rt:VK}{bk ct:St->Hp->Prop}{σ:St}{H:Hp}
theorem iZ{a:Addr}{kvs:List (Key × V)}(Pv:Obj->Nat->St->Hp->Prop)(ha:H a=some (.dK kvs))(h0:∀ ob,Pv ob 0 σ (upd H a (.frz ob (.dK kvs))))(hl:∀ ob i σ' H',Pv ob i σ' H'->H' a=some (.frz ob (.dK kvs)))
  (hs:∀ ob i z σ' H',kvs[i]? = some z->Pv ob i σ' H'->H' a=some (.frz ob (.dK kvs))->g (kV z.1) σ' H' (uD tb ⟨Pv ob (i+1),pI H rt,IA H nx,Pv ob (i+1)⟩)) (hd:∀ ob σ' H',Pv ob kvs.length σ' H'->nx σ' (upd H' a (.dK kvs))) :
  IE (ET g tb ⟨IA H nx,pI H rt,bk,ct⟩ σ) (.ref a) H:=by
 refine⟨a,kvs,rfl,ha,λ ob=>?_⟩;refine⟨λ i m σ' H'=>m=kvs.length - i/\i<=kvs.length/\Pv ob i σ' H',⟨kvs.length,by simp,MC _,h0 ob⟩,?_⟩;rintro i m σ' H' ⟨rfl,hi,p⟩;have qa:=hl ob i σ' H' p
 by_cases hlt:i < kvs.length
 ·refine .inr ⟨⟨qa,hlt⟩,Pv ob (i+1),λ σ'' H'' p'=>⟨kvs.length - (i+1),by omega,rfl,hlt,p'⟩,λ x H'' y=>?_⟩;obtain⟨rfl,z,hz,rfl⟩:=y;exact hs ob i z σ' _ hz p qa
 ·have e:i=kvs.length:=by omega
  subst e;exact .inl ⟨⟨qa,Mb _⟩,a,ob,kvs,kvs,ha,qa,hd ob σ' H' p⟩
end
section
variable {prog:Program}{w:World}{A:Around}{E:Value->Shared->Prop}{s:Shared}
end
section
variable {g:TG}{tb:TS}{nx:St->Hp->Prop}{rt:VK}{bk ct:St->Hp->Prop}{σ:St}{H:Hp}
end
def ku(kv:List (Int × Int))(c v:Int):List (Int × Int):=if (bf kv c).isSome=true then kv.map (λ p=>if p.1=c then (p.1,v) else p) else kv++[(c,v)]
theorem cL(kv:List (Int × Int))(c v:Int):ky (b0 kv) (.inl c) (.int v)=b0 (ku kv c v):=by
 unfold ku
 cases h:bf kv c with
 | none=>rw [Mw (by simp)];exact Cw v h
 | some j=>
  rw [if_pos (show (some j).isSome=true from rfl)];unfold ky;rw [fG,bj,h,Option.map_some,if_pos (show (some (V.int j)).isSome=true from rfl)];unfold b0;rw [map_map,map_map];refine List.map_congr_left λ p _=>?_
  show (if (Sum.inl p.1:Key)=Sum.inl c then _ else _)=_
  by_cases e:p.1=c
  ·rw [My (NI Sum.inl e)];simp [e]
  ·rw [Mw (u9 e)];simp [e]
theorem rH(kv:List (Int × Int))(c v x:Int):bf (ku kv c v) x=if x=c then some v else bf kv x:=by
 have h:=zb (b0 kv) (.inl c:Key) (.inl x) (.int v);rw [cL,bj,bj] at h
 by_cases e:x=c
 ·rw [My (NI Sum.inl e)] at h;rw [My e]
  cases hl:bf (ku kv c v) x with
  | none=>rw [hl] at h;cases h
  | some j=>rw [hl] at h;simp only [Nn,Option.some.injEq,V.int.injEq] at h;rw [h]
 ·rw [Mw (u9 e)] at h;rw [Mw e]
  cases hl:bf (ku kv c v) x with
  | none=>
   cases hr:bf kv x with
   | none=>rfl
   | some j=>rw [hl,hr] at h;cases h
  | some i=>
   cases hr:bf kv x with
   | none=>rw [hl,hr] at h;cases h
   | some j=>rw [hl,hr] at h;simp only [Nn,Option.some.injEq,V.int.injEq] at h;rw [h]
theorem fH(kv:List (Int × Int))(c v:Int):(ku kv c v).length<=kv.length+1:=by
 unfold ku;split
 ·rw [Md];omega
 ·simp
theorem fb(kv:List (Int × Int)):(b0 kv).length=kv.length:=by unfold b0;rw [length_map]
def i8(K:W.Frag)(c Pt:Addr):Prop:=∃ (od:Option Addr) (sl:Array (Option Value)) (vs:Array Value) (file:Str) (tf:Tok) (flags:Int) (tg:Tok) (inF:Bool) (text:Int) (tt:Tok),K.lookup c=some ⟨.type "code",od,.fields vs,sl⟩/\vs[11]? = some (.ref Pt)/\vs.getD 11 .none=.ref Pt/\vs.getD 18 .none=.str file tf/\vs.getD 7 .none=.int flags tg/\vs.getD 9 .none=.bool inF/\vs.getD 10 .none=.int text tt/\c ≠ Pt
theorem IS{K:W.Frag}{c Pt:Addr}{od:Option Addr}{sl:Array (Option Value)}{vs:Array Value}{file:Str}{tf:Tok}{flags:Int}{tg:Tok}{inF:Bool}{text:Int}{tt:Tok}(h1:K.lookup c=some ⟨.type "code",od,.fields vs,sl⟩)(h2:vs[11]? = some (.ref Pt))(h3:vs.getD 11 .none=.ref Pt)(h4:vs.getD 18 .none=.str file tf)(h5:vs.getD 7 .none=.int flags tg)(h6:vs.getD 9 .none=.bool inF)(h7:vs.getD 10 .none=.int text tt)(h8:c ≠ Pt):i8 K c Pt:=⟨_,_,_,_,_,_,_,_,_,_,h1,h2,h3,h4,h5,h6,h7,h8⟩
theorem i8.hd{K:W.Frag}{c Pt:Addr}{h:Heap}(k:i8 K c Pt)(i:K.In h):W.CodeHd h c Pt:=by
 obtain⟨od,sl,vs,file,tf,flags,tg,inF,text,tt,h1,h2,h3,h4,h5,h6,h7,h8⟩:=k;exact⟨_,vs,file,tf,flags,tg,inF,text,tt,i _ _ h1,rfl,rfl,h2,h3,h4,h5,h6,h7,h8⟩
theorem i8.tab{K:W.Frag}{c Pt:Addr}{h:Heap}(k:i8 K c Pt)(i:K.In h):isCodeTable h Pt:=by
 obtain⟨od,sl,vs,file,tf,flags,tg,inF,text,tt,h1,h2,_⟩:=k;exact⟨c,_,vs,i _ _ h1,rfl,rfl,h2⟩
def BP(K:W.Frag)(cdv:Value)(Pt:Addr):Prop:=(∃ c,cdv=.ref c/\i8 K c Pt)/\mainGlobals ≠ Pt
def BmH(mg:Str->Option Value)(H:Hp):Prop:=∃ (bm:Addr) (ob:Obj),mg "__builtins__"=some (.ref bm)/\bm ≠ builtinsNs/\H bm=some (.frz ob (.own 0))/\ob.cls=.type "module" /\ ob.dict=some builtinsNs/\ob.data=.plain
def TbH(mg:Str->Option Value)(H:Hp)(Pt:Addr)(q:Str):Prop:=(∃ tk:Tok,H Pt=some (.tbl #[.str q tk]))/\BmH mg H
theorem TbH.ext{mg:Str->Option Value}{H H':Hp}{Pt:Addr}{q:Str}(h:TbH mg H Pt q)(e:Ext H H'):TbH mg H' Pt q:=by
 obtain⟨⟨tk,h1⟩,bm,ob,h2,h3,h4,h5⟩:=h;exact⟨⟨tk,e.at h1⟩,bm,ob,h2,h3,e.at h4,h5⟩
theorem ub(pos:Pos)(a b:Int)(c:Value):∀ (n:Nat) (l:List Value),l.length<=n->TriplesOk l->∀ cv,codeAmong pos (l++[rawInt a,rawInt b,c])=some cv->codeAmong pos l=some cv\/cv=c:=by
 have base:∀ cv,codeAmong pos [rawInt a,rawInt b,c]=some cv->cv=c:=λ cv h=>by
  simp only [rawInt,codeAmong] at h;split at h
  ·exact(MU h).symm
  ·cases h
 intro n
 induction n with
 | zero=>
  intro l hl _ cv h
  cases l with
  | nil=>exact .inr (base cv h)
  | cons x l=>simp at hl
 | succ n ih=>
  intro l hl ht cv h;unfold TriplesOk at ht;split at ht
  ·exact .inr (base cv h)
  ·rename_i x t y u d l';have ih':=ih l' (by simp at hl;omega) ht cv;simp only [O1,codeAmong] at h ⊢;split at h
   ·rename_i hc;rw [My hc];exact .inl h
   ·rename_i hc;rw [Mw hc];exact ih' h
  ·exact ht.elim
theorem KH{x y:Str}{sc:Scope}{env:Env}{cf:Addr}(hn:sc.names=[(x,.local),(y,.free)])(h:env.cells.lookup y=some cf):closureFor sc env=pure [(y,cf)]:=by
 unfold closureFor;rw [hn];simp [cellOf,h]
abbrev nC(X:Cx):Str:=X.env.qual++Str.ofString "<lambda>"
section
variable {X:Cx}{pins:List (Addr × Obj)}{σ:St}{H:Hp}{s:Shared}
theorem HU{la:Arguments}{lb:Expr}{ls:Scope}{lp:Pos}{Pt:Addr}{clos:List (Str × Addr)}{E:Value->Shared->Prop}{Q:Value->Shared->Prop}(I:Inv X pins σ H s)(hT:BP X.K X.env.code Pt)(hH:TbH X.mg H Pt (nC X))(hcl:closureFor ls X.env=pure clos)(hdf:defaultsOf la X.env=([],[]))
  (k:∀ (f c':Addr) (ctv pm:Value) (H':Hp) (s':Shared),Inv X pins σ H' s'->Ext H H'->kO X pins H' f->s'.heap.get? f=some (W.kla_obj "<lambda>" (nC X) la lb ls clos pm c' ctv)->H' c'=some (.cod (nC X))->Q (.ref f) s'):wpAny (model X.prog X.w) X.A (eval (.Lambda la lb ls lp) X.env) Q E s:=by
 obtain⟨⟨c,hc,hk⟩,hne⟩:=hT;obtain⟨⟨tk0,hP⟩,bm,ob,b1,b2,b3,b4,b5,b6⟩:=hH;obtain⟨q,t,qs,e0,et,tr,hcd⟩:=I.hok Pt _ hP
 have eq0:nC X=q:=by
  have:=NI (λ a:Array Value=>a[0]?) e0;simp at this;exact this.1
 have hns:s.heap.Ns mainGlobals X.mg:=by
  obtain⟨o,es,ep,e,r⟩:=I.ok.mod.glob;exact⟨o,es,ep,I.bk _ _ e,r⟩
 have hbm:s.heap.get? bm=some ob:=(I.hok bm _ b3).1
 have hblt:s.heap.BuiltinsAt X.mg Pt:=by
  refine⟨bm,ob,b1,b2,?_,?_,hbm,b4,b5,b6⟩
  ·intro z;obtain⟨o,es,ep,e,d,_⟩:=hns;rw [←z,hbm] at e;cases e;rw [b6] at d;cases d
  ·intro z;rw [z,et] at hbm;cases hbm;cases b6
 have hPl:Pt ≠ X.env.locals:=λ z=>by rw [z,I.free] at hP;cases hP
 cases hca:codeAmong lp qs.toList with
 | some cv=>
  obtain⟨c',rfl,hc'⟩:=hcd lp cv hca;refine W.kla_eval hdf (W.kla_makeFunctionHit hcl I.ok.glob hns hc (hk.hd I.kIn) et tr hca hblt λ ctv h' tk keep sz=>?_);refine k _ c' ctv _ H _ (I.kept (t':=tk) λ b o e=>Ma _ (keep b o e)) (Ext.refl _) (I.fpOk sz (I.hok.fresh sz)) (Mn _ rfl) (by rw [eq0];exact hc')
 | none=>
  refine W.kla_eval hdf (W.kla_makeFunction hcl I.ok.glob hns hc (hk.hd I.kIn) et tr hca hne hblt λ c' ctv h' tk ext sz lt rc tab=>?_);have hc0:H c'=none:=I.hok.fresh sz;have neP:∀ b,H b=none->b ≠ Pt:=λ b n z=>by rw [z,hP] at n;cases n
  have ncP:c' ≠ Pt:=neP c' hc0;have kp:∀ b o,b ≠ Pt->s.heap.get? b=some o->(h'.push (W.kla_obj "<lambda>" (nC X) la lb ls clos ((X.mg (Str.ofString "__name__")).getD .none) c' ctv)).get? b=some o:=λ b o hb e=>Ma _ (ext b o hb e);have hsz:s.heap.objs.size<=h'.objs.size:=MQ sz (NK lt);have tab':(h'.push (W.kla_obj "<lambda>" (nC X) la lb ls clos ((X.mg (Str.ofString "__name__")).getD .none) c' ctv)).get? Pt=some (W.tabObj (qs ++ #[rawInt lp.line,rawInt lp.col,.ref c'])):=Ma _ tab
  have I':Inv X pins σ (upd H c' (.cod (nC X))) { s with heap:=h'.push (W.kla_obj "<lambda>" (nC X) la lb ls clos ((X.mg (Str.ofString "__name__")).getD .none) c' ctv),toks:=tk }:=by
   refine I.step (g':=s.gens) (d':=s.drawn) (t':=tk) (ch:=[]) (λ _ z=>nomatch z) (λ b o _ _ _ e n=>kp b o (neP b n) e) (λ b o _ _ _ e n=>⟨o.slots,kp b o (neP b n) e⟩) (λ b o _ e n=>?_) (λ b o _ e=>?_) (λ b xs e=>?_) (λ b o u e=>?_) (λ b ps e=>?_) (λ m hm=>?_) (λ b u e=>?_) I.bare
   ·rw [ae (Ms (Mm (Mc e) sz))];exact n
   ·by_cases hb:b=Pt
    ·exact⟨_,by rw [hb];exact tab'⟩
    ·exact⟨o,kp b o hb e⟩
   ·rw [ae (ah e hc0)];exact e
   ·rw [ae (ah e hc0)];exact e
   ·exact⟨#[],by rw [ae (ah e hc0),e];simp⟩
   ·obtain⟨o,es,ep,ho,r⟩:=hm;exact⟨o,es,ep,kp _ o (NA hPl) ho,r⟩
   ·by_cases hb:b=c'
    ·subst hb;rw [ag] at e;cases e;obtain⟨c2,o,vs,t2,z1,z2,z3,z4⟩:=rc;cases z1;exact⟨o,vs,t2,Ma _ z2,z3,z4⟩
    ·rw [ae hb] at e
     by_cases hbP:b=Pt
     ·subst hbP;rw [hP] at e;cases e;refine⟨q,t,_,e0,tab',?_,λ pos cv hcv=>?_⟩
      ·rw [Array.toList_append];exact TriplesOk_snoc _ _ _ _ tr
      ·rw [Array.toList_append] at hcv
       rcases ub pos _ _ _ _ _ (Mb _) tr cv hcv with z|z
       ·obtain⟨d,r1,r2⟩:=hcd pos cv z;exact⟨d,r1,by rw [ae (ah r2 hc0)];exact r2⟩
       ·exact⟨c',z,by rw [ag,eq0]⟩
     ·refine(I.hok b u e).stay (λ d v hd r=>kp d v ?_ r) (λ d r=>by rw [ae (ah r hc0)];exact r) (λ d y r=>by rw [ae (ah r hc0)];exact r) λ d xs r=>by rw [ae (ah r hc0)];exact r
      rcases hd with z|z
      ·rw [z];exact hbP
      ·intro z2;rw [z2,hP] at z;cases z
  refine k _ c' ctv _ _ _ I' (Ext.new hc0) (I.fpOk hsz ?_) (Mn _ rfl) ag;rw [ae (Om lt)];exact I.hok.fresh hsz
def yF(X:Cx)(A:Around)(N:List Str)(ls:Scope)(f c':Addr)(cl:List (Str × Addr))(s:Shared)(H:Hp):Cx where
 prog:=X.prog
 w:=X.w
 K:=X.K
 mg:=X.mg
 base:=X.base
 A:=A.deeper (W.envX (nC X) ls s.heap.objs.size f (.ref c') cl)
 N:=N
 s₀:=s
 H₀:=H
 env:=W.envX (nC X) ls s.heap.objs.size f (.ref c') cl
 outer:=X.stack
 stack:=W.envX (nC X) ls s.heap.objs.size f (.ref c') cl::X.stack
 ex:=[]
 calm:=true
 fn:=λ _=>false
 pn:=[]
 xe:=λ _ _=>False
theorem Eb{A:Around}{k:Nat}{x y:Str}{la:Arguments}{lb:Expr}{ls:Scope}{f c' cf:Addr}{pm ctv xu fu:Value}{xv fv:V}{t:TE}{Q:VK}{E':Value->Shared->Prop}(I:Inv X pins σ H s)(hr:fE k A)(e0:ue X.prog X.w X.K X.mg X.base A X.stack s H)
  (hf:s.heap.get? f=some (W.kla_obj "<lambda>" (nC X) la lb ls [(y,cf)] pm c' ctv)) (hc:H c'=some (.cod (nC X))) (hcf:X.env.cells.lookup y=some cf) (hv:s.heap.IsCell cf (some fu)) (rf:bc fv fu) (rx:bc xv xu)
  (hn:ls.names=[(x,.local),(y,.free)]) (hxy:x ≠ y) (hk:ls.kind=.function) (hg:ls.isGenerator=false) (hco:ls.isCoroutine=false) (hb:∀ (u:Value) (clos:List (Str × Addr)) (pm:Value) (c':Addr) (ctv:Value),bindArgs (W.kla_fn "<lambda>" (nC X) la lb ls clos pm (.ref c') ctv) ⟨[u],[]⟩=pure [(x,u)])
  (ht:PE (yF X A [x,y] ls f c' [(y,cf)] s H) lb t) (h:t [some xv,some fv] H Q):wpAny (model X.prog X.w) A (call (.ref f) [xu]) (EP X pins σ Q) E' s:=by
 have lim:s.heap.NoLimit:=e0.mod.nolimit.keeps λ b o e=>(e0.bs b o e).1;have yx:y ≠ x:=NA hxy;have lx:ls.names.lookup x=some .local:=by rw [hn];simp
 have ly:ls.names.lookup y=some .free:=by rw [hn];simp [List.lookup,N3 yx]
 obtain⟨oc,vs,tc,g1,g2,g3⟩:=I.hok c' _ hc;refine NM (W.kla_callFunE hr.depth hf rfl hco hg rfl ⟨c',oc,vs,tc,rfl,g1,g2,g3⟩ ?_);rw [hb];refine Mf ?_;refine wpAny_newFunctionEnv (λ z hz=>?_) (λ z hz=>?_) (λ h' ns sb=>?_) hk
 ·have hz':z∈ls.names:=hz;rw [hn] at hz'
  rcases ML.mp hz' with rfl|hz'
  ·exact λ q=>by cases q
  ·rw [Mh.mp hz'];exact λ q=>by cases q
 ·rw [Mh.mp hz];exact lx
 have kp:∀ b o,s.heap.get? b=some o->h'.get? b=some o:=λ b o e=>(sb.2 b (Ms (Mc e))).trans (Ma _ e);refine⟨lim.keeps kp,W.kla_codeExpr ?_⟩
 have clk:∀ z c,([(y,cf)]:List (Str × Addr)).lookup z=some c->z=y/\c=cf:=λ z c e=>by
  by_cases hz:z=y
  ·subst hz;simp at e;exact⟨rfl,e.symm⟩
  ·simp [List.lookup,N3 hz] at e
 have J:Inv (yF X A [x,y] ls f c' [(y,cf)] s H) [] [some xv,some fv] H { s with heap:=h',toks:=s.toks+1 }:=by
  have noA:∀ b:Addr,b ∉ (yF X A [x,y] ls f c' [(y,cf)] s H).ex:=λ b z=>absurd (show b∈([]:List Addr) from z) (by simp)
  refine⟨⟨e0.mod,hk,rfl,rfl,Mb _,λ a b c h1 h2=>?_,λ z hz=>?_,λ z c h=>?_,λ _=>hr.hd,Around.frames_deeper e0.frames,.inr ⟨rfl,rfl⟩,λ b z=>absurd z (noA b),e0.bs,e0.bsz,λ b _ _=>noA b,λ b z=>absurd z (noA b),e0.funs,e0.frf⟩,
   rfl,e0.bare,Un.kept kp,⟨_,ns,λ i z v h1 h2 h3=>?_⟩,λ z c h=>?_,e0.hok.fresh (Mb _),λ z c h=>?_,λ p hp=>absurd (show p∈([]:List (Addr × Obj)) from hp) (by simp),e0.hok.kept kp,rfl⟩
  ·rw [(clk a c h1).1,(clk b c h2).1]
  ·have hz':ls.names.lookup z=some .cell\/ls.names.lookup z=some .free:=hz
   by_cases hzy:z=y
   ·exact⟨cf,by rw [hzy];simp [yF]⟩
   ·rw [hn] at hz'
    by_cases hzx:z=x
    ·subst hzx;simp [List.lookup] at hz'
    ·simp [List.lookup,N3 hzx,N3 hzy] at hz'
  ·cases h
  ·match i with
   | 0=>
    have e1:x=z:=by simpa [yF] using h1
    have e2:xv=v:=by simpa using h2
    subst e1 e2;exact⟨xu,rx,.inl ⟨lx,by simp⟩⟩
   | 1=>
    have e1:y=z:=by simpa [yF] using h1
    have e2:fv=v:=by simpa using h2
    subst e1 e2;obtain⟨o,ho,hd⟩:=hv;exact⟨fu,rf,.inr ⟨.inr ly,cf,by simp [yF],o,kp _ _ ho,hd⟩⟩
   | i+2=>simp [yF] at h1
  ·obtain⟨rfl,rfl⟩:=clk z c h;obtain⟨o,ho,hd⟩:=hv;exact⟨_,o,kp _ _ ho,hd⟩
  ·obtain⟨rfl,rfl⟩:=clk z c h;exact I.freeC _ _ hcf
 refine Nk (ht [] _ _ H Q J h) (λ v s' ⟨v',H',J',rv,q⟩=>?_) λ e s' z=>False.elim z;exact I.after ⟨v',H',J'.os,J'.bare,J'.base,J'.hok,rv,q⟩
def lsO(xs:Array Value)(c:Nat):Obj:={ cls:=.type "list",dict:=none,data:=.seq xs c,slots:=#[] }
theorem wU{p f D J:Addr}{xs:List Int}{kf:Int->Int}{kw:List (Str × Value)}{R:Result->Shared->Prop}(hc:X.calm=true)(hp:H p=some (.lst (xs.map V.int)))(fpD:kO X pins H D)(fpJ:kO X pins H J)(hDJ:D ≠ J)
  (hcall:∀ (pl:List (Addr × Obj)) (s:Shared) (x:Int) (xu:Value),x∈xs->Inv X (pins++pl) σ H s->bc (.int x) xu->wpAny (model X.prog X.w) X.A.in1 (call (.ref f) [xu]) (EP X (pins++pl) σ λ v H'=>v=.int (kf x)/\H'=H) (λ _ _=>False) s)
  (hR:∀ x v s',x∈xs->(∀ y∈xs,kf y<=kf x)->bc (.int x) v->Inv X pins σ H s'->R (.ok (.ret v)) s') :
  ∀ (k j:Nat) (s:Shared) (x:Int) (b:Value) (tb:Tok) (c:Nat) (oJ:Obj),xs.length - j=k->Inv X (pins++[(D,lsO #[b,.int (kf x) tb] c),(J,oJ)]) σ H s->s.heap.IsListIter J p j->bc (.int x) b->x∈xs->(∀ y∈xs.take j,kf y<=kf x) →
   codeAny (model X.prog X.w) X.A (.builtin "max.loop" ⟨[.ref J,.ref f,.ref D],kw⟩) R s:=by
 have nm:(toString "max" ++ toString ".loop":String) = "max.loop":=by decide
 obtain⟨d0,d1,d2,d3,d4,d5⟩:=fpD;obtain⟨j0,j1,j2,j3,j4,j5⟩:=fpJ;have hhd:X.A.in1.handled=none->X.A.handled=none:=λ h=>h;intro k
 induction k with
 | zero=>
  intro j s x b tb c oJ hk I st rb hx hle;have gD:=(I.pin (D,lsO #[b,.int (kf x) tb] c) (Me _ (Me _ (.head _)))).1;have I0:=I.unpinned;obtain⟨its,rv,pl,hz⟩:=I.list (SqL.of hp);have hl:=rv.length;rw [Md] at hl;refine(Oa N7 ?_);rw [(ND MP _)]
  show wpAny _ X.A.in1 ((seqItems? (.ref D)) >>= _) _ _ s
  refine L7 (Oj gD rfl ?_)
  show wpAny _ X.A.in1 ((tryCatch (pyNext (.ref J)) _) >>= _) _ _ s
  refine L7 (M9 (OM (show X.A.in1.handled=none from I.ok.hd hc) st pl.isList (by simp;omega) λ h' eb=>?_));have gD':h'.get? D=some (lsO #[b,.int (kf x) tb] c):=eb D _ hDJ gD;have I1:Inv X pins σ H { s with heap:=h' }:=I0.turned (t':=s.toks) (λ b o hb e=>eb b o hb e) j0 j1 j3 j4 j5
  show wpAny _ X.A.in1 ((updateSeq D (λ _=>#[])) >>= _) _ _ _
  refine L7 ?_;refine(N9 gD' rfl (L7 (Oh (Mf ?_))));refine hR x b _ hx (λ y hy=>hle y (by rw [List.take_of_length_le (by omega)];exact hy)) rb ?_;exact I1.turned (t':=s.toks) (it:=D) (h':=h'.update D (Obj.mapSeq λ _=>(#[]:Array Value))) (λ b o hb q=>by rw [Nr _ _ _ _ hb];exact q) d0 d1 d3 d4 d5
 | succ k ih=>
  intro j s x b tb c oJ hk I st rb hx hle;have gD:=(I.pin (D,lsO #[b,.int (kf x) tb] c) (Me _ (Me _ (.head _)))).1;have I0:=I.unpinned;obtain⟨its,rv,pl,hz⟩:=I.list (SqL.of hp);have hl:=rv.length;rw [Md] at hl;obtain⟨y,hy⟩:∃ y,xs[j]? = some y:=⟨_,L8 (by omega)⟩;obtain⟨u,hu,ru⟩:=rv.get (i:=j) (x:=.int y) (by rw [Mq,hy];rfl);have hym:y∈xs:=Mu hy;refine(Oa N7 ?_);rw [(ND MP _)]
  show wpAny _ X.A.in1 ((seqItems? (.ref D)) >>= _) _ _ s
  refine L7 (Oj gD rfl ?_)
  show wpAny _ X.A.in1 ((tryCatch (pyNext (.ref J)) _) >>= _) _ _ s
  refine L7 (M9 (OI st pl.isList (x:=u) (by simpa using hu) λ h' st' sb=>?_));have gD':h'.get? D=some (lsO #[b,.int (kf x) tb] c):=(sb.2 D hDJ).trans gD;have I1:Inv X pins σ H { s with heap:=h' }:=I0.turned (t':=s.toks) (λ b o hb e=>(sb.2 b hb).trans e) j0 j1 j3 j4 j5;obtain⟨oJ',eJ,cJ,dJ⟩:=id st'
  have pin:∀ {s':Shared} {bb:Value} {tt:Tok} {xx:Int} {cc:Nat},Inv X pins σ H s'->s'.heap.get? D=some (lsO #[bb,.int xx tt] cc)->s'.heap.get? J=some oJ'->Inv X (pins++[(D,lsO #[bb,.int xx tt] cc),(J,oJ')]) σ H s':=λ {s' bb tt xx cc} I' g1 g2=>
   I'.pins_of λ p hp=>by
    rcases MA.mp hp with hp|hp
    ·exact I'.pin p (Me _ hp)
    ·rcases ML.mp hp with rfl|hp
     ·exact⟨g1,d0,d1,d2,λ v z=>by cases z⟩
     ·rw [Mh.mp hp];exact⟨g2,j0,j1,j2,λ v z=>by rw [dJ] at z;cases z⟩
  have I2:=pin I1 gD' eJ
  show wpAny _ X.A.in1 ((tryCatch (holding [u] (call (.ref f) [u])) _) >>= _) _ _ _
  refine L7 (M9 (M6 (Nk (hcall _ _ y u hym I2 ru) (λ v s'' he=>?_) λ _ _ hF=>hF.elim)));obtain⟨v',H',I3,rv',rfl,rfl⟩:=he;obtain⟨t2,rfl⟩:=(show ∃ t,v=.int (kf y) t from rv');have nD:=(I3.pin (D,lsO #[b,.int (kf x) tb] c) (Me _ (Me _ (.head _)))).1;have nJ:=(I3.pin (J,oJ') (Me _ (Me _ (.tail _ (.head _))))).1;have I4:=I3.unpinned;have st2:s''.heap.IsListIter J p (j+1):=⟨oJ',nJ,cJ,dJ⟩
  have hle2:∀ z∈xs.take (j+1),z∈xs.take j\/z=y:=λ z hz=>by
   rw [M7,hy] at hz
   rcases MA.mp hz with q|q
   ·exact .inl q
   ·exact .inr (by simpa using q)
  show wpAny _ X.A.in1 ((tryCatch (holding [u,.int (kf y) t2] (richCompare .Gt (.int (kf y) t2) (.int (kf x) tb) >>= _)) _) >>= _) _ _ _
  refine L7 (M9 (M6 (L7 (CmpOf.ints_gt (P:=λ i v=>∃ t,v=.int ((λ i=>if i=0 then kf y else kf x) i) t) (λ i=>if i=0 then kf y else kf x) (λ i v h=>h) 0 1 _ _ _ _ _ ⟨t2,rfl⟩ ⟨tb,rfl⟩ ?_))));refine(L7 (M6 (M8 ?_)));refine(L7 (Oh (Mf ?_)))
  by_cases hb:kf y > kf x
  ·rw [My (by simpa using hb)];refine L7 ?_;refine(N9 nD rfl (L7 (Oh ?_)));rw [nm];have gD2:∃ c2,(s''.heap.update D (Obj.mapSeq λ _=>#[u,.int (kf y) t2])).get? D=some (lsO #[u,.int (kf y) t2] c2):=⟨_,MV _ nD rfl⟩;obtain⟨c2,gD2⟩:=gD2;have I5:=I4.turned (t':=s''.toks) (it:=D) (h':=s''.heap.update D (Obj.mapSeq λ _=>#[u,.int (kf y) t2])) (λ b o hb q=>by rw [Nr _ _ _ _ hb];exact q) d0 d1 d3 d4 d5;have gJ2:(s''.heap.update D (Obj.mapSeq λ _=>#[u,.int (kf y) t2])).get? J=some oJ':=by rw [Nr _ _ _ _ hDJ.symm];exact nJ
   refine Mf ⟨NV MP _,ih (j+1) _ y u t2 c2 oJ' (by omega) (pin I5 gD2 gJ2) ⟨oJ',gJ2,cJ,dJ⟩ ru hym λ z hz=>?_⟩
   rcases hle2 z hz with q|q
   ·have:=hle z q;omega
   ·rw [q];omega
  ·rw [Mw (by simpa using hb)];refine(L7 (Oh ?_));rw [nm];refine Mf ⟨NV MP _,ih (j+1) _ x b tb c oJ' (by omega) (pin I4 nD nJ) st2 rb hx λ z hz=>?_⟩
   rcases hle2 z hz with q|q
   ·exact hle z q
   ·rw [q];omega
theorem ua(a k d:Value):argsOk "max" ⟨[a],[("key",k),("default",d)]⟩:=by unfold argsOk;kernel_rfl
theorem wV{p f:Addr}{xs:List Int}{kf:Int->Int}{d:Value}{dv:V}{Q:VK}(hc:X.calm=true)(I:Inv X pins σ H s)(hp:H p=some (.lst (xs.map V.int)))(rd:bc dv d)
  (hcall:∀ (pl:List (Addr × Obj)) (s:Shared) (x:Int) (xu:Value),x∈xs->Inv X (pins++pl) σ H s->bc (.int x) xu->wpAny (model X.prog X.w) X.A.in1 (call (.ref f) [xu]) (EP X (pins++pl) σ λ v H'=>v=.int (kf x)/\H'=H) (λ _ _=>False) s)
  (h0:xs=[]->Q dv H) (h1:∀ x∈xs,(∀ y∈xs,kf y<=kf x)->Q (.int x) H):wpAny (model X.prog X.w) X.A (call (.builtin "max") [.ref p] [("key",.ref f),("default",d)]) (EP X pins σ Q) X.xe s:=by
 have nm:(toString "max" ++ toString ".loop":String) = "max.loop":=by decide
 obtain⟨its,rv,pl,hz⟩:=I.list (SqL.of hp);have hl:=rv.length;rw [Md] at hl;have hlt:p < s.heap.objs.size:=by obtain⟨_,e,_⟩:=pl.isList;exact Mc e
 refine ll F.kind_max F.plain_max F.entry_max (ua _ _ d) ?_
 show wpAny _ X.A.in1 (Builtin.Builtins.bindParams "max" ["key", "default"] 0 ⟨[],[("key",.ref f),("default",d)]⟩ >>= _) _ _ s
 refine L7 (wpAny_of_eq (show Builtin.Builtins.bindParams "max" ["key", "default"] 0 ⟨[],[("key",.ref f),("default",d)]⟩=pure [some (.ref f),some d] from rfl) ?_);refine L7 (Mf ?_);refine L7 (NT pl.isList ?_);refine L7 (OB ?_);rw [nm];refine Mf ⟨NV MP _,?_⟩;rw [Na];have kp:∀ b o,s.heap.get? b=some o->((s.heap.push { cls:=.type "list_iterator",data:=.fields #[.ref p,.int 0 0] }).push { cls:=.type "list",dict:=none,data:=.seq #[] }).get? b=some o:=λ b o e=>Ma _ (Ma _ e);have gJ:((s.heap.push { cls:=.type "list_iterator",data:=.fields #[.ref p,.int 0 0] }).push { cls:=.type "list",dict:=none,data:=.seq #[] }).get? s.heap.objs.size=some { cls:=.type "list_iterator",data:=.fields #[.ref p,.int 0 0] }:=Ma _ (Mn _ rfl)
 have gD:((s.heap.push { cls:=.type "list_iterator",data:=.fields #[.ref p,.int 0 0] }).push { cls:=.type "list",dict:=none,data:=.seq #[] }).get? (s.heap.objs.size+1)=some (lsO #[] 0):=by
  have:=Mn (s.heap.push { cls:=.type "list_iterator",data:=.fields #[.ref p,.int 0 0] }) (o:={ cls:=.type "list",dict:=none,data:=.seq #[] }) rfl;rw [Na] at this;exact this
 have I1:=I.kept (t':=s.toks) kp;have fpJ:kO X pins H s.heap.objs.size:=I.fpOk (Mb _) (I.hok.fresh (Mb _));have fpD:kO X pins H (s.heap.objs.size+1):=I.fpOk (Nt _) (I.hok.fresh (Nt _));have hDJ:s.heap.objs.size+1 ≠ s.heap.objs.size:=Nat.succ_ne_self _;generalize (s.heap.push { cls:=.type "list_iterator",data:=.fields #[.ref p,.int 0 0] }).push { cls:=.type "list",dict:=none,data:=.seq #[] }=hh at gJ gD I1;clear kp hlt pl;generalize s.heap.objs.size+1=D at gD fpD hDJ;generalize s.heap.objs.size=J at gJ fpJ hDJ;obtain⟨d0,d1,d2,d3,d4,d5⟩:=id fpD;obtain⟨j0,j1,j2,j3,j4,j5⟩:=id fpJ;obtain⟨its,rv,pl,hz⟩:=I1.list (SqL.of hp);have hl:=rv.length;rw [Md] at hl;have st:hh.IsListIter J p 0:=⟨_,gJ,rfl,rfl⟩;refine(Oa N7 ?_);rw [(ND MP _)]
 show wpAny _ X.A.in1 ((seqItems? (.ref D)) >>= _) _ _ _
 refine L7 (Oj gD rfl ?_)
 show wpAny _ X.A.in1 ((tryCatch (pyNext (.ref J)) _) >>= _) _ _ _
 cases hxs:xs with
 | nil=>
  subst hxs;refine L7 (M9 (OM (show X.A.in1.handled=none from I.ok.hd hc) st pl.isList (by simp;simpa using hl.symm) λ h' eb=>?_));refine L7 (wpAny_rule (Mf ?_));exact⟨dv,H,I1.turned (t':=s.toks) (λ b o hb e=>eb b o hb e) j0 j1 j3 j4 j5,rd,h0 rfl⟩
 | cons y ys=>
  have hy:xs[0]? = some y:=by rw [hxs];rfl
  have hym:y∈xs:=Mu hy;obtain⟨u,hu,ru⟩:=rv.get (i:=0) (x:=.int y) (by rw [Mq,hy];rfl);refine L7 (M9 (OI st pl.isList (x:=u) (by simpa using hu) λ h' st' sb=>?_));have gD':h'.get? D=some (lsO #[] 0):=(sb.2 D hDJ).trans gD;have I2:Inv X pins σ H { s with heap:=h' }:=I1.turned (t':=s.toks) (λ b o hb e=>(sb.2 b hb).trans e) j0 j1 j3 j4 j5;obtain⟨oJ',eJ,cJ,dJ⟩:=id st'
  have pin:∀ {s':Shared} {ar:Array Value} {cc:Nat},Inv X pins σ H s'->s'.heap.get? D=some (lsO ar cc)->s'.heap.get? J=some oJ'->Inv X (pins++[(D,lsO ar cc),(J,oJ')]) σ H s':=λ {s' ar cc} I' g1 g2=>
   I'.pins_of λ p hp=>by
    rcases MA.mp hp with hp|hp
    ·exact I'.pin p (Me _ hp)
    ·rcases ML.mp hp with rfl|hp
     ·exact⟨g1,d0,d1,d2,λ v z=>by cases z⟩
     ·rw [Mh.mp hp];exact⟨g2,j0,j1,j2,λ v z=>by rw [dJ] at z;cases z⟩
  have I3:=pin I2 gD' eJ
  show wpAny _ X.A.in1 ((tryCatch (holding [u] (call (.ref f) [u])) _) >>= _) _ _ _
  refine L7 (M9 (M6 (Nk (hcall _ _ y u hym I3 ru) (λ v s'' he=>?_) λ _ _ hF=>hF.elim)));obtain⟨v',H',I4,rv',rfl,rfl⟩:=he;obtain⟨t2,rfl⟩:=(show ∃ t,v=.int (kf y) t from rv');have nD:=(I4.pin (D,lsO #[] 0) (Me _ (Me _ (.head _)))).1;have nJ:=(I4.pin (J,oJ') (Me _ (Me _ (.tail _ (.head _))))).1;have I5:=I4.unpinned
  show wpAny _ X.A.in1 ((updateSeq D (λ _=>#[u,.int (kf y) t2])) >>= _) _ _ _
  refine L7 ?_;refine(N9 nD rfl ?_);rw [nm];obtain⟨c2,gD2⟩:∃ c2,(s''.heap.update D (Obj.mapSeq λ _=>#[u,.int (kf y) t2])).get? D=some (lsO #[u,.int (kf y) t2] c2):=⟨_,MV _ nD rfl⟩;have I6:=I5.turned (t':=s''.toks) (it:=D) (h':=s''.heap.update D (Obj.mapSeq λ _=>#[u,.int (kf y) t2])) (λ b o hb q=>by rw [Nr _ _ _ _ hb];exact q) d0 d1 d3 d4 d5;have gJ2:(s''.heap.update D (Obj.mapSeq λ _=>#[u,.int (kf y) t2])).get? J=some oJ':=by rw [Nr _ _ _ _ hDJ.symm];exact nJ
  refine Mf ⟨NV MP _,wU hc hp fpD fpJ hDJ hcall (λ x v s' hx hle rb I'=>⟨.int x,_,I',rb,h1 x hx hle⟩) _ 1 _ y u t2 c2 oJ' rfl (pin I6 gD2 gJ2) ⟨oJ',gJ2,cJ,dJ⟩ ru hym λ z hz=>?_⟩;rw [hxs] at hz;have:z=y:=by simpa using hz
  rw [this];exact Int.le_refl _
def yP(i:Nat)(Pt:Addr)(mg:Str->Option Value)(q:Str)(t:TE)(σ:St)(Q:VK):List V->Hp->Prop:=λ vs H=>∃ (p:Addr) (xs:List Int) (kf:Int->Int) (fv:V),vs=[.ref p]/\H p=some (.lst (xs.map V.int))/\σ[i]? = some (some fv)/\TbH mg H Pt q/\(∀ x∈xs,∀ H',Ext H H'->∀ Q':VK,Q' (.int (kf x)) H'->t [some (.int x),some fv] H' Q')/\(xs=[]->∀ H',Ext H H'->Q .non H')/\∀ x∈xs,(∀ y∈xs,kf y<=kf x)->∀ H',Ext H H'->Q (.int x) H'
def E6(i:Nat)(Pt:Addr)(mg:Str->Option Value)(q:Str)(t:TE)(ta:TA):TE:=λ σ H Q=>ta σ H (yP i Pt mg q t σ Q)
theorem Dj(i:Nat)(Pt:Addr)(mg:Str->Option Value)(q:Str)(t:TE)(ta:TA)(σ:St)(H:Hp)(Q:VK):E6 i Pt mg q t ta σ H Q=ta σ H (yP i Pt mg q t σ Q):=rfl
theorem zc{i:Nat}{Pt:Addr}{mg:Str->Option Value}{q:Str}{t:TE}{σ:St}{Q:VK}{H:Hp}{p:Addr}{xs:List Int}(kf:Int->Int){fv:V}(hp:H p=some (.lst (xs.map V.int)))(hi:σ[i]? = some (some fv))(hT:TbH mg H Pt q)(ht:∀ x∈xs,∀ H',Ext H H'->∀ Q':VK,Q' (.int (kf x)) H'->t [some (.int x),some fv] H' Q')(h0:xs=[]->∀ H',Ext H H'->Q .non H')(h1:∀ x∈xs,(∀ y∈xs,kf y<=kf x)->∀ H',Ext H H'->Q (.int x) H'):yP i Pt mg q t σ Q [.ref p] H:=⟨p,xs,kf,fv,rfl,hp,hi,hT,ht,h0,h1⟩
theorem p4{i k:Nat}{x y:Str}{p pos kp dp lp cp:Pos}{cn:Nat}{e:Expr}{ta:TA}{la:Arguments}{lb:Expr}{ls:Scope}{Pt:Addr}{t:TE}(hc:X.calm=true)(hr:fE (k+1) X.A)(hg:Gl X "max")(hm:X.mg "max"=none)(ha:PA X [e] ta)(hT:BP X.K X.env.code Pt)(hv:bootBuiltins "max"=some (.builtin "max"))
  (ht:∀ (A:Around) (f c':Addr) (cl:List (Str × Addr)) (s:Shared) (H:Hp),PE (yF X A [x,y] ls f c' cl s H) lb t) (hyN:X.N[i]? = some y:=by rfl) (hyc:X.env.kindOf y=some .cell:=by rfl) (hnm:ls.names=[(x,.local),(y,.free)]:=by rfl) (hdb:x ≠ y:=by decide) (hk:ls.kind=.function:=by rfl) (hge:ls.isGenerator=false:=by rfl) (hco:ls.isCoroutine=false:=by rfl)
  (hdf:defaultsOf la X.env=([],[]):=by rfl) (hb:∀ (u:Value) (clos:List (Str × Addr)) (pm:Value) (c':Addr) (ctv:Value),bindArgs (W.kla_fn "<lambda>" (nC X) la lb ls clos pm (.ref c') ctv) ⟨[u],[]⟩=pure [(x,u)]:=by intros;rfl)
  (hks:(backToKw pos (keywordEach [⟨some "key",.Lambda la lb ls lp,kp⟩,⟨some "default",.Constant .none cn cp,dp⟩] X.env)).filterMap (·.1)=[Str.ofString "key",Str.ofString "default"]:=by rfl) (h1:backTo pos (starEach [e] X.env)=(false,eval e X.env)::backTo pos (starEach [] X.env):=by rfl)
  (h2:(backTo pos (starEach [e] X.env)).any (·.1)=false:=by rfl)
  (h3:(backToKw pos (keywordEach [⟨some "key",.Lambda la lb ls lp,kp⟩,⟨some "default",.Constant .none cn cp,dp⟩] X.env)).all (·.1.isSome)=true:=by rfl)
  (h4:(backToKw pos (keywordEach [⟨some "key",.Lambda la lb ls lp,kp⟩,⟨some "default",.Constant .none cn cp,dp⟩] X.env)).any (·.1.isNone)=false:=by rfl) :
  PE X (.Call (.Name "max" p) [e] [⟨some "key",.Lambda la lb ls lp,kp⟩,⟨some "default",.Constant .none cn cp,dp⟩] pos) (E6 i Pt X.mg (nC X) t ta):=by
 intro pins s σ H Q I h;refine Nb (fX I hg hm hv ?_ (by decide) (by decide));refine callWith_kw (thn (ha pos pins s σ H _ I h) λ us s1 ⟨vs,H1,I1,r1,q1⟩=>?_) h1 h2 h3 h4;obtain⟨pp,xs,kf,fv,rfl,hp,hi,hTb,hts,q0,qx⟩:=q1
 cases r1 with
 | cons r1 rr=>
 cases rr;cases r1;obtain⟨cf,hcf⟩:=I1.ok.has y (.inl hyc);have hcl:closureFor ls X.env=pure [(y,cf)]:=KH hnm hcf;rw [hks]
 show wpAny _ _ (evalAll ((do let v ←eval (.Lambda la lb ls lp) X.env;standAt pos;pure v)::(do let v ←eval (.Constant .none cn cp) X.env;standAt pos;pure v)::[])) _ _ s1
 refine O3 (L7 (HU I1 hT hTb hcl hdf λ f c' ctv pm H2 s2 I2 e2 fpf gf hc2=>L7 (NS (Mf ?_))));refine O3 (L7 (wpAny_of_eq (show eval (.Constant .none cn cp) X.env=pure .none from rfl) (L7 (NS (Mf ?_)))));refine wpAny_evalAll_nil ?_;have hp2:=e2.at hp;obtain⟨f0,f1,f2,f3,f4,f5⟩:=id fpf
 have I3:Inv X (pins++[(f,W.kla_obj "<lambda>" (nC X) la lb ls [(y,cf)] pm c' ctv)]) σ H2 s2:=I2.pins_of λ p hp=>by
  rcases MA.mp hp with hp|hp
  ·exact I2.pin p (Me _ hp)
  ·rw [Mh.mp hp];exact⟨gf,f0,f1,f2,λ v z=>by cases z⟩
 show wpAny _ _ (call (.builtin "max") [.ref pp] [("key",.ref f),("default",.none)]) _ _ _
 refine Nk (wV (dv:=.non) (Q:=Q) (kf:=kf) hc I3 hp2 rfl (λ pl s x xu hx J rx=>?_) (λ z=>q0 z H2 e2) λ x hx hle=>qx x hx hle H2 e2) (λ v s' ⟨v',H',J,rv,q⟩=>⟨v',H',J.unpinned,rv,q⟩) λ _ _ z=>z;have gf':=(J.pin (f,_) (Me _ (MJ _ (Me _ (.head _))))).1;obtain⟨m,hm',hloc⟩:=J.loc;obtain⟨fu,rf,lk⟩:=hloc i y fv hyN hi (.inr (.inl hyc))
 have hcell:s.heap.IsCell cf (some fu):=by
  rcases lk with ⟨z,_⟩|⟨_,c2,z,w⟩
  ·rw [hyc] at z;cases z
  ·rw [hcf] at z;cases z;exact w
 exact Eb J hr.in1 J.env0.in1 gf' hc2 hcf hcell rf rx hnm hdb hk hge hco hb (ht _ _ _ _ _ _) (hts x hx H2 e2 _ ⟨rfl,rfl⟩)
end
abbrev yB(f:Str):Str:=(f++Str.ofString ".<locals>.")++Str.ofString "<lambda>"
theorem Bm:∀ {l:List (Addr × Str)}{b:Addr}{q:Str},l.lookup b=some q->(b,q)∈l
 | [],b,q,h=>by cases h
 | z::l,b,q,h=>by
  by_cases hz:b=z.1
  ·subst hz;simp [List.lookup] at h;rw [←h];exact Mx
  ·simp only [List.lookup,N3 hz] at h;exact Mp _ (Bm h)
theorem Fun.okC{P:Program}{w:World}{K:W.Frag}{mg:Str->Option Value}{base:Heap}{x qual:Str}{st:Stmt}{f:Addr}{fd:FuncData}{N ps:List Str}{k:Nat}{sp:Sp}(F:Fun K x qual st f fd)(S:aj N ps (aa st))(len:∀ vs H Q E,sp vs H Q E->vs.length=ps.length)
  (hbody:∀ (cdv:Value) (A:Around) (outer:List Env) (s:Shared) (H:Hp) (vs:List V) (Q:VK) (E:XK),cdv=fd.code->fE k (A.deeper (envOfC qual (aa st) s.heap.objs.size f cdv))->sp vs H Q E →
   ∃ t,PSs (r6 CX0 P w K mg base N qual (aa st) f cdv A outer s H E).nox (cj st) t/\t { nx:=λ _ H'=>Q .non H',rt:=Q } (au N vs) H):aW P w K mg base CX0 (k+1) f fd ps sp:=by
 obtain⟨oc,od,kV,doc,pm,an,cdv,ct,osl,rfl,lk,hcd⟩:=F.ex;refine yX lk hcd S len λ A outer s H vs Q E hr hsp=>?_;obtain⟨t,h,q⟩:=hbody cdv A outer s H vs Q E rfl hr hsp;exact⟨t,h.nox,q⟩
theorem xE{P:Program}{w:World}{K:W.Frag}{mg mb:Str->Option Value}{CX:CXT}{k:Nat}{fa a:Addr}{fd:FuncData}{x:Str}{sp:Sp}{s₁:Shared}{vs:List Value}{ns:List Int}(tq:List (Addr × Str))
  (KX:K.In s₁.heap) (hns:s₁.heap.Ns mainGlobals mg) (hb:s₁.heap.Ns builtinsNs mb) (hbb:∀ x:Str,x ≠ "__name__" → mb x=bootBuiltins x) (hlim:s₁.heap.NoLimit) (hg:s₁.gens=#[])
  (ha:s₁.heap.get? a=some { cls:=.type "list",data:=.seq vs.toArray }) (hi:IntsAre vs ns) (hl:ns.length<=sizeLine) (hr:fE k callerA)
  (F:∀ base:Heap,K.In base->base.Ns mainGlobals mg->aW P w K mg base CX k fa fd [x] sp) (hbind:∀ (s:Shared) (u:Value),BindsTo s fd ⟨[u],[]⟩ [(x,u)])
  (htab:∀ p∈tq,s₁.heap.get? p.1=some (W.tabObj #[])) (htK:∀ p∈tq,K.lookup p.1=none) (hct:∀ p∈tq,isCodeTable s₁.heap p.1)
  (hbm:∃ (bm:Addr) (ob:Obj),mg "__builtins__"=some (.ref bm)/\bm ≠ builtinsNs/\s₁.heap.get? bm=some ob/\ob.cls=.type "module" /\ ob.dict=some builtinsNs/\ob.data=.plain) (hbK:∀ bm,mg "__builtins__"=some (.ref bm)->K.lookup bm=none) (hnd:(tq.map (·.1)).Nodup)
  (hsp:∀ H:Hp,SqL K H a (ns.map V.int)->(∀ p∈tq,TbH mg H p.1 p.2)->sp [.ref a] H (λ v _=>v=.bl true) λ _ _ _=>False)
  (hCX:∀ H e s',CX [] H s₁ (λ _ _ _=>False) e s'->False) :
  codeAny (model P w) callerA (.call (.ref fa) ⟨[.ref a],[]⟩) (λ r s'=>r=.ok (.ret (.bool true))/\OldK s₁.heap s'.heap/\s'.os=s₁.os/\AllBare s'.gens) s₁:=by
 have rv:=nR hi;have lenV:=hi.length
 have core:∀ H:Hp,SqL K H a (ns.map V.int)->(∀ p∈tq,TbH mg H p.1 p.2)->HOk P w H s₁.heap->(∀ b u,H b=some u->(∃ o v,u=.frz o v/\s₁.heap.get? b=some o/\∀ es ep,o.data ≠ .dict es ep)\/(∃ q t,u=.tbl #[.str q t]/\s₁.heap.get? b=some (W.tabObj #[])/\isCodeTable s₁.heap b))->(∀ b,H b ≠ none->K.lookup b=none) →
   codeAny (model P w) callerA (.call (.ref fa) ⟨[.ref a],[]⟩) (λ r s'=>r=.ok (.ret (.bool true))/\OldK s₁.heap s'.heap/\s'.os=s₁.os/\AllBare s'.gens) s₁:=by
  intro H hS hT hok hA hK;have base_of:∀ {b:Addr} {o:Obj},s₁.heap.get? b=some o->H b=none->(yH s₁.heap H).get? b=some o:=λ e n=>Av e n
  have noA:∀ {b:Addr} {o:Obj} {es:Array DictEntry} {ep:Nat},s₁.heap.get? b=some o->o.data=.dict es ep->H b=none:=λ {b o es ep} e d=>by
   cases q:H b with
   | none=>rfl
   | some u=>
    rcases hA b u q with ⟨o',v,_,e',nd⟩|⟨q',t,_,e',_⟩
    ·rw [e] at e';cases e';exact absurd d (nd es ep)
    ·rw [e] at e';cases e';cases d
  have nsK:∀ {b:Addr} {m:Str->Option Value},s₁.heap.Ns b m->(yH s₁.heap H).Ns b m:=λ {b m} ⟨o,es,ep,e,d,r⟩=>⟨o,es,ep,base_of e (noA e d),d,r⟩
  have hKb:K.In (yH s₁.heap H):=λ b o e=>base_of (KX b o e) (by
   cases q:H b with
   | none=>rfl
   | some u=>rw [hK b (by rw [q];simp)] at e;cases e)
  have hM:Mod K mg (yH s₁.heap H):=⟨hKb,nsK hns,⟨mb,nsK hb,hbb⟩,let ⟨mc,h1,h2⟩:=hlim;⟨mc,nsK h1,h2⟩⟩;have e0:ue P w K mg (yH s₁.heap H) callerA [] s₁ H:=⟨rfl,hM,λ b o e=>CY e,Oo (x5 _ _),trivial,λ b hb=>absurd (show b∈([]:List Addr) from hb) (by simp),hok,.of_eq hg⟩;refine NJ ((F _ hKb (nsK hns)).run callerA [] s₁ H ⟨[.ref a],[]⟩ [.ref a] [.ref a] _ _ hr e0 (hbind s₁ (.ref a)) (.cons rfl .nil) (hsp H hS hT)) λ r s' h=>?_
  cases r with
  | error e=>exact(hCX H e s' h).elim
  | ok fl=>
   cases fl with
   | next=>exact False.elim h
   | brk=>exact False.elim h
   | cont=>exact False.elim h
   | ret u=>
    obtain⟨v,H',os,bare,un,hok',r',q⟩:=h;have q':v=.bl true:=q;subst q';obtain rfl:u=Value.bool true:=r'
    have old:∀ b o,s₁.heap.get? b=some o->asItWas s₁.heap s'.heap b o:=λ b o e=>by
     cases q:H b with
     | none=>exact .inl (un.keep b o e q (by intro z;exact absurd (show b∈([]:List Addr) from z) (by simp)) (by simp))
     | some u=>
      rcases hA b u q with ⟨o',v,rfl,e',_⟩|⟨q',t,rfl,e',hc⟩
      ·obtain⟨e2,_⟩:=hok' b _ (un.frzs b o' _ q);rw [e] at e';cases e';exact .inl e2
      ·obtain⟨more,e1⟩:=un.tbls b _ q;obtain⟨_,_,qs,_,e2,_⟩:=hok' b _ e1;rw [e] at e';cases e';exact .inr (.inl ⟨hc,rfl,#[],qs,rfl,by rw [e2];simp⟩)
    refine⟨rfl,⟨old,λ b o e=>un.there b o e (by simp)⟩,os,bare⟩
 obtain⟨bm,ob,m1,m2,m3,m4,m5,m6⟩:=hbm;have abm:a ≠ bm:=λ z=>by rw [←z,ha] at m3;cases m3;cases m6
 have atq:∀ p∈tq,p.1 ≠ a/\p.1 ≠ bm:=λ p hp=>⟨(λ z=>by have:=htab p hp;rw [z,ha] at this;cases this),(λ z=>by have:=htab p hp;rw [z,m3] at this;cases this;cases m6)⟩
 let H1:Hp:=λ b=>if b=bm then some (.frz ob (.own 0)) else (tq.lookup b).map λ q=>.tbl #[.str q 0]
 have lk:∀ p∈tq,tq.lookup p.1=some p.2:=by
  clear hsp htab htK hct core atq H1
  induction tq with
  | nil=>intro p hp;cases hp
  | cons z l ih=>
   intro p hp;rw [Nj,Nh] at hnd
   rcases ML.mp hp with rfl|hp
   ·simp [List.lookup]
   ·have hne:p.1 ≠ z.1:=λ e=>hnd.1 (e ▸ List.mem_map_of_mem hp);have:=ih hnd.2 p hp;simp only [List.lookup,N3 hne];exact this
 have h1:∀ b u,H1 b=some u->(b=bm/\u=.frz ob (.own 0))\/∃ p∈tq,p.1=b/\u=.tbl #[.str p.2 0]:=λ b u e=>by
  by_cases hbb:b=bm
  ·have e2:H1 b=some (.frz ob (.own 0)):=My hbb;rw [e2] at e;cases e;exact .inl ⟨hbb,rfl⟩
  ·have e2:H1 b=(tq.lookup b).map λ q=>.tbl #[.str q 0]:=Mw hbb;rw [e2] at e;obtain⟨q,e3,rfl⟩:=Mg.mp e;exact .inr ⟨(b,q),Bm e3,rfl,rfl⟩
 have h1a:H1 a=none:=by
  cases q:H1 a with
  | none=>rfl
  | some u=>
   rcases h1 a u q with ⟨z,_⟩|⟨p,hp,z,_⟩
   ·exact absurd z abm
   ·exact absurd z (atq p hp).1
 have ok1:∀ (H:Hp),(∀ b u,H1 b=some u->aV P w H s₁.heap b u):=λ H b u e=>by
  rcases h1 b u e with ⟨rfl,rfl⟩|⟨p,hp,rfl,rfl⟩
  ·exact⟨m3,ob,m3⟩
  ·exact⟨p.2,0,#[],rfl,htab p hp,trivial,λ pos cv h=>by cases h⟩
 have tb1:∀ (H:Hp),(∀ b u,H1 b=some u->H b=some u)->∀ p∈tq,TbH mg H p.1 p.2:=λ H hH p hp=>by
  refine⟨⟨0,hH _ _ ?_⟩,bm,ob,m1,m2,hH _ _ (My rfl),m4,m5,m6⟩
  show (if p.1=bm then _ else _)=_
  rw [Mw (atq p hp).2,lk p hp];rfl
 have cl1:∀ b u,H1 b=some u->(∃ o v,u=.frz o v/\s₁.heap.get? b=some o/\∀ es ep,o.data ≠ .dict es ep)\/(∃ q t,u=.tbl #[.str q t]/\s₁.heap.get? b=some (W.tabObj #[])/\isCodeTable s₁.heap b):=λ b u e=>by
  rcases h1 b u e with ⟨rfl,rfl⟩|⟨p,hp,rfl,rfl⟩
  ·exact .inl ⟨ob,_,rfl,m3,λ es ep z=>by rw [m6] at z;cases z⟩
  ·exact .inr ⟨p.2,0,rfl,htab p hp,hct p hp⟩
 have k1:∀ b,H1 b ≠ none->K.lookup b=none:=λ b n=>by
  cases q:H1 b with
  | none=>exact absurd q n
  | some u=>
   rcases h1 b u q with ⟨rfl,_⟩|⟨p,hp,rfl,_⟩
   ·exact hbK _ m1
   ·exact htK p hp
 cases hk:K.lookup a with
 | some o=>
  have e:=KX a o hk;rw [ha] at e;cases e;exact core H1 (.inr ⟨_,vs.toArray,_,hk,rfl,rfl,rfl,by rw [MS,lenV];exact hl,by simpa using rv⟩) (tb1 H1 λ _ _ e=>e) (ok1 H1) cl1 k1
 | none=>
  have h2:∀ b u,upd H1 a (.frz { cls:=.type "list",data:=.seq vs.toArray } (.lst (ns.map V.int))) b=some u->(b=a/\u=.frz { cls:=.type "list",data:=.seq vs.toArray } (.lst (ns.map V.int)))\/H1 b=some u:=λ b u e=>by
   by_cases hb:b=a
   ·subst hb;rw [ag] at e;cases e;exact .inl ⟨rfl,rfl⟩
   ·rw [ae hb] at e;exact .inr e
  refine core (upd H1 a (.frz { cls:=.type "list",data:=.seq vs.toArray } (.lst (ns.map V.int)))) (.inl (.inr ⟨_,ag⟩)) (tb1 _ λ b u e=>by rw [ae (ah e h1a)];exact e) (λ b u e=>?_) (λ b u e=>?_) λ b n=>?_
  ·rcases h2 b u e with ⟨rfl,rfl⟩|e
   ·exact⟨ha,by rw [Md];exact hl,vs,_,rv,ha⟩
   ·exact ok1 _ b u e
  ·rcases h2 b u e with ⟨rfl,rfl⟩|e
   ·exact .inl ⟨_,_,rfl,ha,λ es ep z=>by cases z⟩
   ·exact cl1 b u e
  ·cases q:upd H1 a (.frz { cls:=.type "list",data:=.seq vs.toArray } (.lst (ns.map V.int))) b with
   | none=>exact absurd q n
   | some u=>
    rcases h2 b u q with ⟨rfl,_⟩|e
    ·exact hk
    ·exact k1 b (by rw [e];simp)
theorem IP{l:W.OpenLaw}{n k:Nat}{q:Program}{loose:List Str}{XP:(Str->Option Value)->Heap->Prop}{YP:World->Heap->Prop}{d:DefRec}{K:Params->W.Frag}{CX:World->CXT}{sp:World->(Str->Option Value)->Sp}{x:Str}(tq:List (Addr × Str))
  (hn:l.most=some n) (hn2:n<=sizeLine) (hdf:d.params.defaults=[]) (hr:fE k callerA)
  (hY:∀ (w:World) (h:Heap),YP w h->(K w.params).In h) (hYt:∀ (w:World) (h:Heap),YP w h->∀ p∈tq,h.get? p.1=some (W.tabObj #[])) (hnd:(tq.map (·.1)).Nodup)
  (F:∀ (w:World) (mg:Str->Option Value) (fa:Addr) (h:Heap),(K w.params).In h->h.Ns mainGlobals mg->mg d.name=some (.ref fa) →
   (∀ p∈tq,(K w.params).lookup p.1=none/\∃ c,i8 (K w.params) c p.1)/\(∀ bm,mg "__builtins__"=some (.ref bm)->(K w.params).lookup bm=none)/\∃ fd:FuncData,(∀ (s:Shared) (u:Value),BindsTo s fd ⟨[u],[]⟩ [(x,u)]) /\
    ∀ base:Heap,(K w.params).In base->base.Ns mainGlobals mg->aW l.prog w (K w.params) mg base (CX w) k fa fd [x] (sp w mg))
  (hsp:∀ (w:World) (mg:Str->Option Value) (H:Hp) (a:Addr) (ns:List Int),ns.length<=n->SqL (K w.params) H a (ns.map V.int)->(∀ p∈tq,TbH mg H p.1 p.2)->sp w mg [.ref a] H (λ v _=>v=.bl true) λ _ _ _=>False)
  (hCX:∀ (w:World) (H:Hp) (s:Shared) (e:Value) (s':Shared),CX w [] H s (λ _ _ _=>False) e s'->False) :
  W.WalkO q loose XP YP l.row.toRowW d [] (λ f vs=>PySem.call f vs):=by
 refine Att.attach_call hn hdf λ w s₀ s₁ mg mb fa o pm cd doc a vs ns G Y ho hd hcd hmg hobj hints hlen hg=>?_;have KX:=hY w _ Y;obtain⟨hT,hB,fd,hb,hF⟩:=F w mg fa _ KX G.T.g hmg;exact xE tq KX G.T.g G.T.b G.T.builtins G.T.nolimit hg hobj hints (MQ hlen hn2) hr hF hb (hYt w _ Y) (λ p hp=>(hT p hp).1) (λ p hp=>let ⟨_,c⟩:=(hT p hp).2;c.tab KX) G.T.bmain hB hnd (λ H hS ht=>hsp w mg H a ns hlen hS ht) λ H e s'=>hCX w H s₁ e s'
def K4:R2:=λ x y H Q=>∃ (a b:Addr) (xs:List V),x=.ref a/\y=.ref b/\H a=some (.lst xs)/\H b=some (.lst xs)/\(∀ v∈xs,∃ q,v=V.ref q)/\Q (.bl false) H
theorem Cj{a b:Addr}{xs:List V}{H:Hp}{Q:VK}(ha:H a=some (.lst xs))(hb:H b=some (.lst xs))(h:∀ v∈xs,∃ q,v=V.ref q)(q:Q (.bl false) H):K4 (.ref a) (.ref b) H Q:=⟨a,b,xs,rfl,rfl,ha,hb,h,q⟩
theorem qU:∀ {xs:List V}{us ws:List Value},(∀ v∈xs,∃ q,v=V.ref q)->br xs us->br xs ws->us=ws
 | _,_,_,_,.nil,.nil=>rfl
 | _,_,_,h,.cons r t,.cons r' t'=>by
  obtain⟨q,rfl⟩:=h _ Mx;cases (show _=Value.ref q from r);cases (show _=Value.ref q from r');rw [qU (λ v hv=>h v (Mp _ hv)) t t']
theorem Gp{X:Cx}(hu:X.A.units+64 < cLine):OpR X (compareOp .NotEq) K4:=by
 intro pins s σ H x y v u Q I rx ry h;obtain⟨a,b,xs,rfl,rfl,ha,hb,hr,q⟩:=h;cases (show _=Value.ref a from rx);cases (show _=Value.ref b from ry);obtain⟨its,rv,pa,_⟩:=I.list (SqL.of ha);obtain⟨its',rv',pb,_⟩:=I.list (SqL.of hb);have e:=qU hr rv rv';subst e;have key:=SeqAt.RcNeAt.lists (A:=X.A) (e:=λ _=>true) pa.isList pb.isList rfl (by omega) (λ j h1 h2=>SeqAt.EqAt.same _);have ea:(List.range its.toArray.size).all (λ _=>true)=true:=by simp
 rw [ea] at key;exact key X.prog X.w _ _ ⟨.bl false,H,I,rfl,q⟩
end L2
namespace PH
def nE(ns:List Int):Prop:=ns.length<=8/\∀ n∈ns,1<=n/\n<=1000000000
def ak:List Int->Int
 | []=>1
 | n::r=>n * ak r
theorem fz:∀ ns ms:List Int,ak (ns++ms)=ak ns * ak ms
 | [],ms=>by simp [ak]
 | n::r,ms=>by simp only [O1,ak,fz r ms,Int.mul_assoc]
theorem fN(ns:List Int)(i:Nat)(z:Int)(h:ns[i]? = some z):ak (ns.take (i+1))=ak (ns.take i) * z:=by
 rw [M7,h,fz];simp [ak]
theorem n6:∀ ns:List Int,(∀ n∈ns,1<=n/\n<=1000000000)->1<=ak ns/\ak ns<=1000000000 ^ ns.length
 | [],_=>by simp [ak]
 | n::r,h=>by
  obtain⟨h1,h2⟩:=n6 r λ m hm=>h m (Mp _ hm);obtain⟨g1,g2⟩:=h n Mx;refine⟨?_,?_⟩
  ·show 1<=n * ak r
   exact Int.le_trans (by omega) (Int.mul_le_mul g1 h1 (by decide) (by omega):1 * 1<=n * ak r)
  ·show n * ak r<=1000000000 ^ (r.length+1)
   rw [Int.pow_succ,Int.mul_comm];exact Int.mul_le_mul h2 g2 (by omega) (Int.le_trans (by omega) h2)
theorem CC:∀ {k:Nat},k<=8->(1000000000:Int) ^ k<=1000000000 ^ 8
 | 0,_=>by decide
 | 1,_=>by decide
 | 2,_=>by decide
 | 3,_=>by decide
 | 4,_=>by decide
 | 5,_=>by decide
 | 6,_=>by decide
 | 7,_=>by decide
 | 8,_=>by decide
 | k+9,h=>by omega
theorem nE.prod{ns:List Int}(h:nE ns):1<=ak ns/\ak ns<=1000000000 ^ 8:=by
 obtain⟨a,b⟩:=n6 ns h.2;exact⟨a,Int.le_trans b (CC h.1)⟩
theorem nE.take{ns:List Int}(h:nE ns)(i:Nat):nE (ns.take i):=⟨by have:=h.1;simp;omega,λ n hn=>h.2 n (Og hn)⟩
open PySem L2
def vi:V->Int
 | .int i=>i
 | _=>0
theorem ud{α:Type}(l:List α):(l.filter λ _=>true)=l:=List.filter_eq_self.mpr λ _ _=>rfl
def aU(a:Int × Int):Int × Int:=(a.1,if a.1 > 1 then a.2 else 0)
def axL(axs:List (Int × Int)):List (List Int):=axs.map λ a=>[a.1,a.2]
def ba(axs:List (Int × Int)):Int:=(axs.map λ a=>min 0 ((a.1 - 1) * a.2)).sum
def bg(axs:List (Int × Int)):Int:=(axs.map λ a=>max 0 ((a.1 - 1) * a.2)).sum
def fF(axs:List (Int × Int)):Prop:=axs.length<=8/\∀ a∈axs,1<=a.1/\a.1<=1000000000
structure ja(room first:Int)(axs:List (Int × Int)):Prop where
 ax:fF axs
 r1:1<=room
 r2:room<=1000000000000000000
 lo:0<=first+ba (axs.map aU)
 hi:first+bg (axs.map aU) < room
theorem fF.kept{axs:List (Int × Int)}(h:fF axs):fF (axs.map aU):=⟨by rw [Md];exact h.1,λ a ha=>by
 obtain⟨b,hb,rfl⟩:=MM.mp ha;exact h.2 b hb⟩
theorem fF.sizes{axs:List (Int × Int)}(h:fF axs):nE (axs.map λ a=>a.1):=⟨by rw [Md];exact h.1,λ n hn=>by
 obtain⟨b,hb,rfl⟩:=MM.mp hn;exact h.2 b hb⟩
def cR(room first:Int)(l:Addr):List (Str × V):=fD "axes" (.ref l) (fD "first" (.int first) (fD "room" (.int room) []))
theorem JR:¬ (("room":Str) = "axes"):=by decide +kernel
theorem JQ:¬ (("room":Str) = "first"):=by decide +kernel
theorem JT:¬ (("first":Str) = "axes"):=by decide +kernel
theorem cM(room first:Int)(l:Addr):(cR room first l).lookup ("room":Str)=some (.int room):=by
 unfold cR;rw [aM,if_neg JR,aM,if_neg JQ,aM,if_pos rfl]
theorem cW(room first:Int)(l:Addr):(cR room first l).lookup ("first":Str)=some (.int first):=by
 unfold cR;rw [aM,if_neg JT,aM,if_pos rfl]
theorem cO(room first:Int)(l:Addr):(cR room first l).lookup ("axes":Str)=some (.ref l):=by
 unfold cR;rw [aM,if_pos rfl]
theorem za(room first:Int)(l:Addr){m:Str}(h1:¬ m = "axes")(h2:¬ m = "first")(h3:¬ m = "room"):(cR room first l).lookup m=none:=by
 unfold cR;rw [aM,if_neg h1,aM,if_neg h2,aM,if_neg h3];rfl
theorem ju:∀ ns:List Int,(∀ n∈ns,(1:Int)<=n)->1<=ak ns
 | [],_=>by simp [ak]
 | n::ns,h=>by
  have h1:=h n Mx;have h2:=ju ns λ m hm=>h m (Mp _ hm)
  show 1<=n * ak ns
  have:=Int.mul_le_mul h1 h2 (by decide) (by omega);omega
theorem jJ(a:Int × Int)(l:List (Int × Int)):ba (a::l)=min 0 ((a.1 - 1) * a.2)+ba l:=by unfold ba;simp
theorem jK(a:Int × Int)(l:List (Int × Int)):bg (a::l)=max 0 ((a.1 - 1) * a.2)+bg l:=by unfold bg;simp
theorem gR(ns:List Int)(h:∀ n∈ns,(1:Int)<=n)(i:Nat):ak (ns.take i)<=ak ns:=by
 have e:ak ns=ak (ns.take i) * ak (ns.drop i):=by rw [←fz,List.take_append_drop]
 have a:=ju (ns.take i) λ n hn=>h n (Og hn);have b:=ju (ns.drop i) λ n hn=>h n (List.mem_of_mem_drop hn);rw [e];have:=Int.mul_le_mul_of_nonneg_left b (show 0<=ak (ns.take i) by omega);omega
def bN(cs:List Int)(a:Int × Int):List Int:=cs.flatMap λ c=>(List.range a.1.toNat).map λ (n:Nat)=>c+(n:Int) * a.2
def ai(first:Int)(axs:List (Int × Int)):List Int:=axs.foldl bN [first]
theorem jj(cs:List Int)(a:Int × Int):(bN cs a).length=cs.length * a.1.toNat:=by
 unfold bN
 induction cs with
 | nil=>simp
 | cons c r ih=>rw [List.flatMap_cons,Ml,ih,Md,MY,Nw,Nat.add_mul];omega
theorem jL(first:Int)(axs:List (Int × Int))(a:Int × Int):ai first (axs++[a])=bN (ai first axs) a:=by
 unfold ai;rw [List.foldl_append];rfl
theorem oq:∀ (axs:List (Int × Int)) (cs:List Int),(∀ a∈axs,(1:Int)<=a.1)->((axs.foldl bN cs).length:Int)=cs.length * ak (axs.map λ a=>a.1)
 | [],cs,_=>by simp [ak]
 | a::r,cs,h=>by
  have ha:=h a Mx;rw [OD,oq r (bN cs a) λ b hb=>h b (Mp _ hb),jj,O5,NX (by omega),Int.mul_assoc];rfl
theorem bx(first:Int)(axs:List (Int × Int))(h:∀ a∈axs,(1:Int)<=a.1):((ai first axs).length:Int)=ak (axs.map λ a=>a.1):=by
 unfold ai;rw [oq axs [first] h];simp
def top(i:Nat):Stmt:=PySem.Challenge.pw_pacehall_k83_rounds_and_chains.main.body.getD i (.Pass ⟨0,0,0,0⟩)
abbrev bY:Stmt:=aP (top 7) 0
theorem g7:aj ["self", "number"] ["self", "number"] (aa bY):=⟨rfl,rfl,rfl,by decide +kernel,rfl,by decide +kernel,by decide +kernel⟩
abbrev il:Stmt:=top 9
theorem t5:aj ["thing"] ["thing"] (aa il):=⟨rfl,rfl,rfl,by decide +kernel,rfl,by decide +kernel,by decide +kernel⟩
abbrev ip:Stmt:=top 12
theorem fQ:aj ["sizes", "count", "size"] ["sizes"] (aa ip):=⟨rfl,rfl,rfl,by decide +kernel,rfl,by decide +kernel,by decide +kernel⟩
abbrev ei:Stmt:=top 13
abbrev kY:Stmt:=top 14
abbrev eK:Stmt:=top 15
theorem gX:aj ["count"] ["count"] (aa eK):=⟨rfl,rfl,rfl,by decide +kernel,rfl,by decide +kernel,by decide +kernel⟩
abbrev gs:Stmt:=top 20
theorem qG:aj ["thing", "low", "high"] ["thing", "low", "high"] (aa gs):=⟨rfl,rfl,rfl,by decide +kernel,rfl,by decide +kernel,by decide +kernel⟩
abbrev js:Stmt:=top 21
theorem yv:aj ["thing"] ["thing"] (aa js):=⟨rfl,rfl,rfl,by decide +kernel,rfl,by decide +kernel,by decide +kernel⟩
abbrev jt:Stmt:=top 22
theorem yw:aj ["thing"] ["thing"] (aa jt):=⟨rfl,rfl,rfl,by decide +kernel,rfl,by decide +kernel,by decide +kernel⟩
abbrev fL:Stmt:=top 23
theorem t7:aj ["thing"] ["thing"] (aa fL):=⟨rfl,rfl,rfl,by decide +kernel,rfl,by decide +kernel,by decide +kernel⟩
abbrev gr:Stmt:=top 24
theorem qF:aj ["axis"] ["axis"] (aa gr):=⟨rfl,rfl,rfl,by decide +kernel,rfl,by decide +kernel,by decide +kernel⟩
abbrev bX:Stmt:=aP (top 25) 0
theorem ki:aj ["self", "room", "first", "axes"] ["self", "room", "first", "axes"] (aa bX):=⟨rfl,rfl,rfl,by decide +kernel,rfl,by decide +kernel,by decide +kernel⟩
abbrev dq:Stmt:=aP (top 25) 1
theorem pw:aj ["self"] ["self"] (aa dq):=⟨rfl,rfl,rfl,by decide +kernel,rfl,by decide +kernel,by decide +kernel⟩
abbrev iD:Stmt:=aP (top 25) 2
abbrev fm:Stmt:=aP (top 25) 3
theorem pz:aj ["self"] ["self"] (aa fm):=⟨rfl,rfl,rfl,by decide +kernel,rfl,by decide +kernel,by decide +kernel⟩
abbrev jC:Stmt:=aP (top 25) 4
abbrev fq:Stmt:=aP (top 25) 6
theorem cC:aj ["self", "found", "size", "pace"] ["self"] (aa fq):=⟨rfl,rfl,rfl,by decide +kernel,rfl,by decide +kernel,by decide +kernel⟩
abbrev dz:Stmt:=aP (top 25) 7
theorem px:aj ["self"] ["self"] (aa dz):=⟨rfl,rfl,rfl,by decide +kernel,rfl,by decide +kernel,by decide +kernel⟩
abbrev bW:Stmt:=aP (top 25) 8
theorem kh:aj ["self"] ["self"] (aa bW):=⟨rfl,rfl,rfl,by decide +kernel,rfl,by decide +kernel,by decide +kernel⟩
abbrev gM:Stmt:=top 26
theorem jA:aj ["cells", "size", "pace", "found", "cell"] ["cells", "size", "pace"] (aa gM):=⟨rfl,rfl,rfl,by decide +kernel,rfl,by decide +kernel,by decide +kernel⟩
abbrev dI:Stmt:=top 28
theorem fZ:aj ["one", "other"] ["one", "other"] (aa dI):=⟨rfl,rfl,rfl,by decide +kernel,rfl,by decide +kernel,by decide +kernel⟩
abbrev dM:Stmt:=top 30
theorem kK:aj ["view", "many"] ["view", "many"] (aa dM):=⟨rfl,rfl,rfl,by decide +kernel,rfl,by decide +kernel,by decide +kernel⟩
abbrev fi:Stmt:=top 32
theorem pk:aj ["one", "other"] ["one", "other"] (aa fi):=⟨rfl,rfl,rfl,by decide +kernel,rfl,by decide +kernel,by decide +kernel⟩
abbrev bZ:Stmt:=aP (top 33) 0
theorem g8:aj ["self"] ["self"] (aa bZ):=⟨rfl,rfl,rfl,by decide +kernel,rfl,by decide +kernel,by decide +kernel⟩
abbrev cw:Stmt:=aP (top 33) 1
theorem eo:aj ["self"] ["self"] (aa cw):=⟨rfl,rfl,rfl,by decide +kernel,rfl,by decide +kernel,by decide +kernel⟩
abbrev cZ:Stmt:=aP (top 34) 0
theorem ko:aj ["self", "to", "value"] ["self", "to", "value"] (aa cZ):=⟨rfl,rfl,rfl,by decide +kernel,rfl,by decide +kernel,by decide +kernel⟩
abbrev eP:Stmt:=aP (top 34) 1
theorem nv:aj ["self"] ["self"] (aa eP):=⟨rfl,rfl,rfl,by decide +kernel,rfl,by decide +kernel,by decide +kernel⟩
abbrev df:Stmt:=aP (top 35) 0
theorem kq:aj ["self", "to", "source"] ["self", "to", "source"] (aa df):=⟨rfl,rfl,rfl,by decide +kernel,rfl,by decide +kernel,by decide +kernel⟩
abbrev eQ:Stmt:=aP (top 35) 1
theorem ny:aj ["self"] ["self"] (aa eQ):=⟨rfl,rfl,rfl,by decide +kernel,rfl,by decide +kernel,by decide +kernel⟩
abbrev fw:Stmt:=aP (top 35) 2
theorem pB:aj ["self"] ["self"] (aa fw):=⟨rfl,rfl,rfl,by decide +kernel,rfl,by decide +kernel,by decide +kernel⟩
abbrev cY:Stmt:=aP (top 36) 0
theorem kj:aj ["self", "one", "other"] ["self", "one", "other"] (aa cY):=⟨rfl,rfl,rfl,by decide +kernel,rfl,by decide +kernel,by decide +kernel⟩
abbrev eN:Stmt:=aP (top 36) 1
theorem nt:aj ["self"] ["self"] (aa eN):=⟨rfl,rfl,rfl,by decide +kernel,rfl,by decide +kernel,by decide +kernel⟩
abbrev ft:Stmt:=aP (top 36) 2
theorem pA:aj ["self"] ["self"] (aa ft):=⟨rfl,rfl,rfl,by decide +kernel,rfl,by decide +kernel,by decide +kernel⟩
abbrev cF:Stmt:=aP (top 37) 0
theorem iR:aj ["self", "to", "source"] ["self", "to", "source"] (aa cF):=⟨rfl,rfl,rfl,by decide +kernel,rfl,by decide +kernel,by decide +kernel⟩
abbrev dR:Stmt:=aP (top 37) 1
theorem kL:aj ["self"] ["self"] (aa dR):=⟨rfl,rfl,rfl,by decide +kernel,rfl,by decide +kernel,by decide +kernel⟩
abbrev eO:Stmt:=aP (top 37) 2
theorem nu:aj ["self"] ["self"] (aa eO):=⟨rfl,rfl,rfl,by decide +kernel,rfl,by decide +kernel,by decide +kernel⟩
abbrev ik:Stmt:=top 38
theorem tQ:aj ["statement"] ["statement"] (aa ik):=⟨rfl,rfl,rfl,by decide +kernel,rfl,by decide +kernel,by decide +kernel⟩
abbrev dH:Stmt:=top 39
theorem aY:aj ["views", "view"] ["views"] (aa dH):=⟨rfl,rfl,rfl,by decide +kernel,rfl,by decide +kernel,by decide +kernel⟩
abbrev iq:Stmt:=top 40
theorem fR:aj ["views", "found", "view", "cell"] ["views"] (aa iq):=⟨rfl,rfl,rfl,by decide +kernel,rfl,by decide +kernel,by decide +kernel⟩
abbrev bH:Stmt:=top 43
theorem aG:aj ["statements", "views", "statement"] ["statements"] (aa bH):=⟨rfl,rfl,rfl,by decide +kernel,rfl,by decide +kernel,by decide +kernel⟩
abbrev fe:Stmt:=top 44
theorem cq:aj ["statements", "found", "wrote", "touched", "number", "statement", "written", "read", "rivals", "before", "at", "cell"] ["statements"] (aa fe):=⟨rfl,rfl,rfl,by decide +kernel,rfl,by decide +kernel,by decide +kernel⟩
abbrev eA:Stmt:=top 45
theorem bE:aj ["statements", "found", "many", "told", "number", "row"] ["statements"] (aa eA):=⟨rfl,rfl,rfl,by decide +kernel,rfl,by decide +kernel,by decide +kernel⟩
abbrev hU:Stmt:=top 46
theorem dG:aj ["statements", "found", "told", "number"] ["statements"] (aa hU):=⟨rfl,rfl,rfl,by decide +kernel,rfl,by decide +kernel,by decide +kernel⟩
abbrev gw:Stmt:=top 48
theorem eI:aj ["_law_script", "_law_k", "_law_many", "_law_number", "_law_cell"] ["_law_script", "_law_k", "_law_many"] (aa gw):=⟨rfl,rfl,rfl,by decide +kernel,rfl,by decide +kernel,by decide +kernel⟩
abbrev fj:Stmt:=top 49
theorem pq:aj ["_law_found"] ["_law_found"] (aa fj):=⟨rfl,rfl,rfl,by decide +kernel,rfl,by decide +kernel,by decide +kernel⟩
abbrev dn:Stmt:=top 50
theorem bq:aj ["_law_first", "_law_axes", "_law_cells_here", "_law_size", "_law_pace", "_law_more", "_law_cell"] ["_law_first", "_law_axes"] (aa dn):=⟨rfl,rfl,rfl,by decide +kernel,rfl,by decide +kernel,by decide +kernel⟩
abbrev cX:Stmt:=top 51
theorem aS:aj ["_law_script", "_law_at", "_law_room", "_law_views", "_law_k", "_law_cell", "_law_size", "_law_pace", "_law_axes", "_law_low", "_law_high"] ["_law_script", "_law_at", "_law_room"] (aa cX):=⟨rfl,rfl,rfl,by decide +kernel,rfl,by decide +kernel,by decide +kernel⟩
abbrev dk:Stmt:=top 52
theorem dB:aj ["_law_views", "_law_cell", "_law_one", "_law_same", "_law_other"] ["_law_views", "_law_cell"] (aa dk):=⟨rfl,rfl,rfl,by decide +kernel,rfl,by decide +kernel,by decide +kernel⟩
abbrev fk:Stmt:=top 53
theorem cB:aj ["_law_view", "_law_count_here", "_law_size", "_law_pace"] ["_law_view"] (aa fk):=⟨rfl,rfl,rfl,by decide +kernel,rfl,by decide +kernel,by decide +kernel⟩
abbrev gv:Stmt:=top 54
theorem bG:aj ["_law_drawn_here", "_law_room", "_law_way", "_law_one", "_law_other", "_law_value", "_law_to", "_law_source"] ["_law_drawn_here", "_law_room"] (aa gv):=⟨rfl,rfl,rfl,by decide +kernel,rfl,by decide +kernel,by decide +kernel⟩
abbrev dO:Stmt:=top 55
theorem aJ:aj ["_law_drawn_here", "_law_way", "_law_one", "_law_other", "_law_value", "_law_here", "_law_there", "_law_writes"] ["_law_drawn_here"] (aa dO):=⟨rfl,rfl,rfl,by decide +kernel,rfl,by decide +kernel,by decide +kernel⟩
abbrev dm:Stmt:=top 56
theorem dC:aj ["_law_one", "_law_other", "_law_here", "_law_there", "_law_cell"] ["_law_one", "_law_other"] (aa dm):=⟨rfl,rfl,rfl,by decide +kernel,rfl,by decide +kernel,by decide +kernel⟩
abbrev eL:Stmt:=top 57
theorem bz:aj ["_law_drawn_here", "_law_levels_here", "_law_k", "_law_level", "_law_j"] ["_law_drawn_here"] (aa eL):=⟨rfl,rfl,rfl,by decide +kernel,rfl,by decide +kernel,by decide +kernel⟩
abbrev fM:Stmt:=top 58
theorem iw:aj ["_law_levels_here", "_law_found", "_law_level"] ["_law_levels_here"] (aa fM):=⟨rfl,rfl,rfl,by decide +kernel,rfl,by decide +kernel,by decide +kernel⟩
abbrev dj:Stmt:=top 59
theorem iF:aj ["_law_found", "_law_due_here", "_law_row"] ["_law_found", "_law_due_here"] (aa dj):=⟨rfl,rfl,rfl,by decide +kernel,rfl,by decide +kernel,by decide +kernel⟩
abbrev dQ:Stmt:=top 60
theorem dW:aj ["_law_found", "_law_drawn_here", "_law_levels_here", "_law_at", "_law_here"] ["_law_found", "_law_drawn_here", "_law_levels_here"] (aa dQ):=⟨rfl,rfl,rfl,by decide +kernel,rfl,by decide +kernel,by decide +kernel⟩
abbrev gu:Stmt:=top 61
theorem cu:aj ["_law_way", "_law_statements", "_law_word", "e"] ["_law_way", "_law_statements"] (aa gu):=⟨rfl,rfl,rfl,by decide +kernel,rfl,by decide +kernel,by decide +kernel⟩
abbrev dP:Stmt:=top 62
theorem aT:aj ["_law_script", "_law_room", "_law_built", "_law_much", "_law_far", "_law_size", "_law_many", "_law_way", "_law_some_here"] ["_law_script", "_law_room", "_law_built"] (aa dP):=⟨rfl,rfl,rfl,by decide +kernel,rfl,by decide +kernel,by decide +kernel⟩
abbrev i6:Stmt:=top 63
theorem hJ:aj ["_law_script", "_law_room", "_law_views", "_law_many", "_law_drawn_here", "_law_built", "_law_handed", "_law_levels_here", "_law_found", "_law_row", "_law_tall", "_law_wide", "_law_at"] ["_law_script"] (aa i6):=⟨rfl,rfl,rfl,by decide +kernel,rfl,by decide +kernel,by decide +kernel⟩
set_option genInjectivity false in
structure Adr where
 a_PaceError:Addr
 a_NoPlace:Addr
 a_NoView:Addr
 a_NoCount:Addr
 a_NoPair:Addr
 a_TooMany:Addr
 a_View:Addr
 a_Statement:Addr
 a_Fill:Addr
 a_Copy:Addr
 a_Swap:Addr
 a_Raise:Addr
 a_TooMany___init__:Addr
 d_TooMany___init__:FuncData
 a_is_whole:Addr
 d_is_whole:FuncData
 a_count_of:Addr
 d_count_of:FuncData
 a_is_number_below:Addr
 d_is_number_below:FuncData
 a_is_place:Addr
 d_is_place:FuncData
 a_refuse_long:Addr
 d_refuse_long:FuncData
 a_is_within:Addr
 d_is_within:FuncData
 a_is_size:Addr
 d_is_size:FuncData
 a_is_axis:Addr
 d_is_axis:FuncData
 a_are_axes:Addr
 d_are_axes:FuncData
 a_kept_axis:Addr
 d_kept_axis:FuncData
 a_View___init__:Addr
 d_View___init__:FuncData
 a_View_sizes:Addr
 d_View_sizes:FuncData
 a_View_paces:Addr
 d_View_paces:FuncData
 a_View_count:Addr
 d_View_count:FuncData
 a_View_cell:Addr
 d_View_cell:FuncData
 a_View_cells:Addr
 d_View_cells:FuncData
 a_View_least:Addr
 d_View_least:FuncData
 a_View_greatest:Addr
 d_View_greatest:FuncData
 a_widened:Addr
 d_widened:FuncData
 a_refuse_rooms:Addr
 d_refuse_rooms:FuncData
 a_refuse_count:Addr
 d_refuse_count:FuncData
 a_refuse_two:Addr
 d_refuse_two:FuncData
 a_Statement_writes:Addr
 d_Statement_writes:FuncData
 a_Statement_reads:Addr
 d_Statement_reads:FuncData
 a_Fill___init__:Addr
 d_Fill___init__:FuncData
 a_Fill_writes:Addr
 d_Fill_writes:FuncData
 a_Copy___init__:Addr
 d_Copy___init__:FuncData
 a_Copy_writes:Addr
 d_Copy_writes:FuncData
 a_Copy_reads:Addr
 d_Copy_reads:FuncData
 a_Swap___init__:Addr
 d_Swap___init__:FuncData
 a_Swap_writes:Addr
 d_Swap_writes:FuncData
 a_Swap_reads:Addr
 d_Swap_reads:FuncData
 a_Raise___init__:Addr
 d_Raise___init__:FuncData
 a_Raise_writes:Addr
 d_Raise_writes:FuncData
 a_Raise_reads:Addr
 d_Raise_reads:FuncData
 a_views_of:Addr
 d_views_of:FuncData
 a_refuse_views:Addr
 d_refuse_views:FuncData
 a_cells_of:Addr
 d_cells_of:FuncData
 a_refuse_statements:Addr
 d_refuse_statements:FuncData
 a_dealt:Addr
 d_dealt:FuncData
 a_rounds:Addr
 d_rounds:FuncData
 a_chain:Addr
 d_chain:FuncData
 a__law_draw:Addr
 d__law_draw:FuncData
 a__law_whole:Addr
 d__law_whole:FuncData
 a__law_cells:Addr
 d__law_cells:FuncData
 a__law_some:Addr
 d__law_some:FuncData
 a__law_drawn:Addr
 d__law_drawn:FuncData
 a__law_count:Addr
 d__law_count:FuncData
 a__law_made:Addr
 d__law_made:FuncData
 a__law_touched:Addr
 d__law_touched:FuncData
 a__law_clash:Addr
 d__law_clash:FuncData
 a__law_levels:Addr
 d__law_levels:FuncData
 a__law_due:Addr
 d__law_due:FuncData
 a__law_right:Addr
 d__law_right:FuncData
 a__law_chained:Addr
 d__law_chained:FuncData
 a__law_told:Addr
 d__law_told:FuncData
 a__law_refused:Addr
 d__law_refused:FuncData
 a_law:Addr
 d_law:FuncData
structure Tx(K:W.Frag)(mg:Str->Option Value)(t:Adr):Prop where
 m_PaceError:mg "PaceError"=some (.ref t.a_PaceError)
 m_NoPlace:mg "NoPlace"=some (.ref t.a_NoPlace)
 m_NoView:mg "NoView"=some (.ref t.a_NoView)
 m_NoCount:mg "NoCount"=some (.ref t.a_NoCount)
 m_NoPair:mg "NoPair"=some (.ref t.a_NoPair)
 m_TooMany:mg "TooMany"=some (.ref t.a_TooMany)
 m_View:mg "View"=some (.ref t.a_View)
 m_Statement:mg "Statement"=some (.ref t.a_Statement)
 m_Fill:mg "Fill"=some (.ref t.a_Fill)
 m_Copy:mg "Copy"=some (.ref t.a_Copy)
 m_Swap:mg "Swap"=some (.ref t.a_Swap)
 m_Raise:mg "Raise"=some (.ref t.a_Raise)
 o_NoPair:W.excIn K t.a_NoPair [.type "ValueError",.type "Exception",.type "BaseException",.type "object"] "ValueError.__new__"=true
 x_NoPair_PaceError:W.exmOne K (.ref t.a_NoPair) (.ref t.a_PaceError)=some true
 x_TooMany_PaceError:W.exmOne K (.ref t.a_TooMany) (.ref t.a_PaceError)=some true
 ocs:W.specialIn K (.builtin "object.__class__") "__get__"=some (some (.builtin "getset_descriptor.__get__"))
 oct:W.takesIn K (.builtin "object.__class__")=some true
 ga_NoPair:W.findIn K (.ref t.a_NoPair) "__getattribute__"=some (some (.builtin "BaseException.__getattribute__"))
 gn_NoPair:W.findIn K (.ref t.a_NoPair) "__getattr__"=some none
 mb_NoPair:W.mroIn K t.a_NoPair (.type "BaseException")=some true
 mo_NoPair:W.mroIn K t.a_NoPair (.type "object")=some true
 fc_NoPair:W.findIn K (.ref t.a_NoPair) "__class__"=some (some (.builtin "object.__class__"))
 hd_NoPair:W.hasDictIn K t.a_NoPair=true
 ga_TooMany:W.findIn K (.ref t.a_TooMany) "__getattribute__"=some (some (.builtin "BaseException.__getattribute__"))
 gn_TooMany:W.findIn K (.ref t.a_TooMany) "__getattr__"=some none
 mb_TooMany:W.mroIn K t.a_TooMany (.type "BaseException")=some true
 mo_TooMany:W.mroIn K t.a_TooMany (.type "object")=some true
 fc_TooMany:W.findIn K (.ref t.a_TooMany) "__class__"=some (some (.builtin "object.__class__"))
 hd_TooMany:W.hasDictIn K t.a_TooMany=true
 kc_NoPair_NoPair:W.hasDictIn K t.a_NoPair=true
 kt_NoPair_NoPair:W.typeIn K (.ref t.a_NoPair)=some (.type "type")
 ks_NoPair_NoPair:W.subIn K (.ref t.a_NoPair) (.ref t.a_NoPair)=some true
 kc_NoPair_TooMany:W.hasDictIn K t.a_TooMany=true
 kt_NoPair_TooMany:W.typeIn K (.ref t.a_TooMany)=some (.type "type")
 ks_NoPair_TooMany:W.subIn K (.ref t.a_NoPair) (.ref t.a_TooMany)=some false
 kn_NoPair_TooMany:(t.a_NoPair == t.a_TooMany)=false
 kc_TooMany_NoPair:W.hasDictIn K t.a_NoPair=true
 kt_TooMany_NoPair:W.typeIn K (.ref t.a_NoPair)=some (.type "type")
 ks_TooMany_NoPair:W.subIn K (.ref t.a_TooMany) (.ref t.a_NoPair)=some false
 kn_TooMany_NoPair:(t.a_TooMany == t.a_NoPair)=false
 kc_TooMany_TooMany:W.hasDictIn K t.a_TooMany=true
 kt_TooMany_TooMany:W.typeIn K (.ref t.a_TooMany)=some (.type "type")
 ks_TooMany_TooMany:W.subIn K (.ref t.a_TooMany) (.ref t.a_TooMany)=some true
 ks_NoPair_ValueError:W.subIn K (.ref t.a_NoPair) (.type "ValueError")=some true
 ks_TooMany_ValueError:W.subIn K (.ref t.a_TooMany) (.type "ValueError")=some true
 m_MOST_TOLD:∃ tk,mg "MOST_TOLD"=some (.int 4096 tk)
 m_MOST_ROOM:∃ tk,mg "MOST_ROOM"=some (.int 1000000000000000000 tk)
 m_MOST_SIZE:∃ tk,mg "MOST_SIZE"=some (.int 1000000000 tk)
 m_MOST_AXES:∃ tk,mg "MOST_AXES"=some (.int 8 tk)
 m_MOST_STATEMENTS:∃ tk,mg "MOST_STATEMENTS"=some (.int 60 tk)
 oi_TooMany:EY K t.a_TooMany t.a_TooMany___init__
 tk_TooMany_number:W.takerIn K t.a_TooMany "number"=some none
 na_TooMany_number:bh K t.a_TooMany "number"
 bi_PaceError:FD K t.a_PaceError
 cl_View:Cls K t.a_View
 na_View_axes:bh K t.a_View "axes"
 na_View_first:bh K t.a_View "first"
 na_View_room:bh K t.a_View "room"
 mk_View:Mk K t.a_View t.a_View___init__
 mt_View_sizes:kM K t.a_View "sizes" t.a_View_sizes
 mt_View_paces:kM K t.a_View "paces" t.a_View_paces
 mt_View_count:kM K t.a_View "count" t.a_View_count
 mt_View_cell:kM K t.a_View "cell" t.a_View_cell
 mt_View_cells:kM K t.a_View "cells" t.a_View_cells
 mt_View_least:kM K t.a_View "least" t.a_View_least
 mt_View_greatest:kM K t.a_View "greatest" t.a_View_greatest
 cl_Statement:Cls K t.a_Statement
 mk0_Statement:Mk0 K t.a_Statement
 mt_Statement_writes:kM K t.a_Statement "writes" t.a_Statement_writes
 mt_Statement_reads:kM K t.a_Statement "reads" t.a_Statement_reads
 cl_Fill:Cls K t.a_Fill
 na_Fill_to:bh K t.a_Fill "to"
 na_Fill_value:bh K t.a_Fill "value"
 mt_Fill_writes:kM K t.a_Fill "writes" t.a_Fill_writes
 mt_Fill_reads:kM K t.a_Fill "reads" t.a_Statement_reads
 mk_Fill:Mk K t.a_Fill t.a_Fill___init__
 cl_Copy:Cls K t.a_Copy
 na_Copy_source:bh K t.a_Copy "source"
 na_Copy_to:bh K t.a_Copy "to"
 mt_Copy_writes:kM K t.a_Copy "writes" t.a_Copy_writes
 mt_Copy_reads:kM K t.a_Copy "reads" t.a_Copy_reads
 mk_Copy:Mk K t.a_Copy t.a_Copy___init__
 cl_Swap:Cls K t.a_Swap
 na_Swap_one:bh K t.a_Swap "one"
 na_Swap_other:bh K t.a_Swap "other"
 mt_Swap_writes:kM K t.a_Swap "writes" t.a_Swap_writes
 mt_Swap_reads:kM K t.a_Swap "reads" t.a_Swap_reads
 mk_Swap:Mk K t.a_Swap t.a_Swap___init__
 cl_Raise:Cls K t.a_Raise
 na_Raise_source:bh K t.a_Raise "source"
 na_Raise_to:bh K t.a_Raise "to"
 mt_Raise_writes:kM K t.a_Raise "writes" t.a_Raise_writes
 mt_Raise_reads:kM K t.a_Raise "reads" t.a_Raise_reads
 mk_Raise:Mk K t.a_Raise t.a_Raise___init__
 F_TooMany___init__:Fun K "__init__" "TooMany.__init__" bY t.a_TooMany___init__ t.d_TooMany___init__
 b_TooMany___init__:az K t.d_TooMany___init__ ["self", "number"] []
 F_is_whole:Fun K "is_whole" "is_whole" il t.a_is_whole t.d_is_whole
 m_is_whole:mg "is_whole"=some (.ref t.a_is_whole)
 b_is_whole:az K t.d_is_whole ["thing"] []
 F_count_of:Fun K "count_of" "count_of" ip t.a_count_of t.d_count_of
 m_count_of:mg "count_of"=some (.ref t.a_count_of)
 b_count_of:az K t.d_count_of ["sizes"] []
 F_is_number_below:Fun K "is_number_below" "is_number_below" ei t.a_is_number_below t.d_is_number_below
 m_is_number_below:mg "is_number_below"=some (.ref t.a_is_number_below)
 b_is_number_below:az K t.d_is_number_below ["thing", "bound"] []
 F_is_place:Fun K "is_place" "is_place" kY t.a_is_place t.d_is_place
 m_is_place:mg "is_place"=some (.ref t.a_is_place)
 b_is_place:az K t.d_is_place ["sizes", "thing"] []
 F_refuse_long:Fun K "refuse_long" "refuse_long" eK t.a_refuse_long t.d_refuse_long
 m_refuse_long:mg "refuse_long"=some (.ref t.a_refuse_long)
 b_refuse_long:az K t.d_refuse_long ["count"] []
 F_is_within:Fun K "is_within" "is_within" gs t.a_is_within t.d_is_within
 m_is_within:mg "is_within"=some (.ref t.a_is_within)
 b_is_within:az K t.d_is_within ["thing", "low", "high"] []
 F_is_size:Fun K "is_size" "is_size" js t.a_is_size t.d_is_size
 m_is_size:mg "is_size"=some (.ref t.a_is_size)
 b_is_size:az K t.d_is_size ["thing"] []
 F_is_axis:Fun K "is_axis" "is_axis" jt t.a_is_axis t.d_is_axis
 m_is_axis:mg "is_axis"=some (.ref t.a_is_axis)
 b_is_axis:az K t.d_is_axis ["thing"] []
 F_are_axes:Fun K "are_axes" "are_axes" fL t.a_are_axes t.d_are_axes
 m_are_axes:mg "are_axes"=some (.ref t.a_are_axes)
 b_are_axes:az K t.d_are_axes ["thing"] []
 F_kept_axis:Fun K "kept_axis" "kept_axis" gr t.a_kept_axis t.d_kept_axis
 m_kept_axis:mg "kept_axis"=some (.ref t.a_kept_axis)
 b_kept_axis:az K t.d_kept_axis ["axis"] []
 F_View___init__:Fun K "__init__" "View.__init__" bX t.a_View___init__ t.d_View___init__
 b_View___init__:az K t.d_View___init__ ["self", "room", "first", "axes"] []
 F_View_sizes:Fun K "sizes" "View.sizes" dq t.a_View_sizes t.d_View_sizes
 b_View_sizes:az K t.d_View_sizes ["self"] []
 F_View_paces:Fun K "paces" "View.paces" iD t.a_View_paces t.d_View_paces
 b_View_paces:az K t.d_View_paces ["self"] []
 F_View_count:Fun K "count" "View.count" fm t.a_View_count t.d_View_count
 b_View_count:az K t.d_View_count ["self"] []
 F_View_cell:Fun K "cell" "View.cell" jC t.a_View_cell t.d_View_cell
 b_View_cell:az K t.d_View_cell ["self", "place"] []
 F_View_cells:Fun K "cells" "View.cells" fq t.a_View_cells t.d_View_cells
 b_View_cells:az K t.d_View_cells ["self"] []
 F_View_least:Fun K "least" "View.least" dz t.a_View_least t.d_View_least
 b_View_least:az K t.d_View_least ["self"] []
 F_View_greatest:Fun K "greatest" "View.greatest" bW t.a_View_greatest t.d_View_greatest
 b_View_greatest:az K t.d_View_greatest ["self"] []
 F_widened:Fun K "widened" "widened" gM t.a_widened t.d_widened
 m_widened:mg "widened"=some (.ref t.a_widened)
 b_widened:az K t.d_widened ["cells", "size", "pace"] []
 F_refuse_rooms:Fun K "refuse_rooms" "refuse_rooms" dI t.a_refuse_rooms t.d_refuse_rooms
 m_refuse_rooms:mg "refuse_rooms"=some (.ref t.a_refuse_rooms)
 b_refuse_rooms:az K t.d_refuse_rooms ["one", "other"] []
 F_refuse_count:Fun K "refuse_count" "refuse_count" dM t.a_refuse_count t.d_refuse_count
 m_refuse_count:mg "refuse_count"=some (.ref t.a_refuse_count)
 b_refuse_count:az K t.d_refuse_count ["view", "many"] []
 F_refuse_two:Fun K "refuse_two" "refuse_two" fi t.a_refuse_two t.d_refuse_two
 m_refuse_two:mg "refuse_two"=some (.ref t.a_refuse_two)
 b_refuse_two:az K t.d_refuse_two ["one", "other"] []
 F_Statement_writes:Fun K "writes" "Statement.writes" bZ t.a_Statement_writes t.d_Statement_writes
 b_Statement_writes:az K t.d_Statement_writes ["self"] []
 F_Statement_reads:Fun K "reads" "Statement.reads" cw t.a_Statement_reads t.d_Statement_reads
 b_Statement_reads:az K t.d_Statement_reads ["self"] []
 F_Fill___init__:Fun K "__init__" "Fill.__init__" cZ t.a_Fill___init__ t.d_Fill___init__
 b_Fill___init__:az K t.d_Fill___init__ ["self", "to", "value"] []
 F_Fill_writes:Fun K "writes" "Fill.writes" eP t.a_Fill_writes t.d_Fill_writes
 b_Fill_writes:az K t.d_Fill_writes ["self"] []
 F_Copy___init__:Fun K "__init__" "Copy.__init__" df t.a_Copy___init__ t.d_Copy___init__
 b_Copy___init__:az K t.d_Copy___init__ ["self", "to", "source"] []
 F_Copy_writes:Fun K "writes" "Copy.writes" eQ t.a_Copy_writes t.d_Copy_writes
 b_Copy_writes:az K t.d_Copy_writes ["self"] []
 F_Copy_reads:Fun K "reads" "Copy.reads" fw t.a_Copy_reads t.d_Copy_reads
 b_Copy_reads:az K t.d_Copy_reads ["self"] []
 F_Swap___init__:Fun K "__init__" "Swap.__init__" cY t.a_Swap___init__ t.d_Swap___init__
 b_Swap___init__:az K t.d_Swap___init__ ["self", "one", "other"] []
 F_Swap_writes:Fun K "writes" "Swap.writes" eN t.a_Swap_writes t.d_Swap_writes
 b_Swap_writes:az K t.d_Swap_writes ["self"] []
 F_Swap_reads:Fun K "reads" "Swap.reads" ft t.a_Swap_reads t.d_Swap_reads
 b_Swap_reads:az K t.d_Swap_reads ["self"] []
 F_Raise___init__:Fun K "__init__" "Raise.__init__" cF t.a_Raise___init__ t.d_Raise___init__
 b_Raise___init__:az K t.d_Raise___init__ ["self", "to", "source"] []
 F_Raise_writes:Fun K "writes" "Raise.writes" dR t.a_Raise_writes t.d_Raise_writes
 b_Raise_writes:az K t.d_Raise_writes ["self"] []
 F_Raise_reads:Fun K "reads" "Raise.reads" eO t.a_Raise_reads t.d_Raise_reads
 b_Raise_reads:az K t.d_Raise_reads ["self"] []
 F_views_of:Fun K "views_of" "views_of" ik t.a_views_of t.d_views_of
 m_views_of:mg "views_of"=some (.ref t.a_views_of)
 b_views_of:az K t.d_views_of ["statement"] []
 F_refuse_views:Fun K "refuse_views" "refuse_views" dH t.a_refuse_views t.d_refuse_views
 m_refuse_views:mg "refuse_views"=some (.ref t.a_refuse_views)
 b_refuse_views:az K t.d_refuse_views ["views"] []
 F_cells_of:Fun K "cells_of" "cells_of" iq t.a_cells_of t.d_cells_of
 m_cells_of:mg "cells_of"=some (.ref t.a_cells_of)
 b_cells_of:az K t.d_cells_of ["views"] []
 F_refuse_statements:Fun K "refuse_statements" "refuse_statements" bH t.a_refuse_statements t.d_refuse_statements
 m_refuse_statements:mg "refuse_statements"=some (.ref t.a_refuse_statements)
 b_refuse_statements:az K t.d_refuse_statements ["statements"] []
 F_dealt:Fun K "dealt" "dealt" fe t.a_dealt t.d_dealt
 m_dealt:mg "dealt"=some (.ref t.a_dealt)
 b_dealt:az K t.d_dealt ["statements"] []
 F_rounds:Fun K "rounds" "rounds" eA t.a_rounds t.d_rounds
 m_rounds:mg "rounds"=some (.ref t.a_rounds)
 b_rounds:az K t.d_rounds ["statements"] []
 F_chain:Fun K "chain" "chain" hU t.a_chain t.d_chain
 m_chain:mg "chain"=some (.ref t.a_chain)
 b_chain:az K t.d_chain ["statements"] []
 F__law_draw:Fun K "_law_draw" "_law_draw" gw t.a__law_draw t.d__law_draw
 m__law_draw:mg "_law_draw"=some (.ref t.a__law_draw)
 b__law_draw:az K t.d__law_draw ["_law_script", "_law_k", "_law_many"] []
 F__law_whole:Fun K "_law_whole" "_law_whole" fj t.a__law_whole t.d__law_whole
 m__law_whole:mg "_law_whole"=some (.ref t.a__law_whole)
 b__law_whole:az K t.d__law_whole ["_law_found"] []
 F__law_cells:Fun K "_law_cells" "_law_cells" dn t.a__law_cells t.d__law_cells
 m__law_cells:mg "_law_cells"=some (.ref t.a__law_cells)
 b__law_cells:az K t.d__law_cells ["_law_first", "_law_axes"] []
 F__law_some:Fun K "_law_some" "_law_some" cX t.a__law_some t.d__law_some
 m__law_some:mg "_law_some"=some (.ref t.a__law_some)
 b__law_some:az K t.d__law_some ["_law_script", "_law_at", "_law_room"] []
 F__law_drawn:Fun K "_law_drawn" "_law_drawn" dk t.a__law_drawn t.d__law_drawn
 m__law_drawn:mg "_law_drawn"=some (.ref t.a__law_drawn)
 b__law_drawn:az K t.d__law_drawn ["_law_views", "_law_cell"] []
 F__law_count:Fun K "_law_count" "_law_count" fk t.a__law_count t.d__law_count
 m__law_count:mg "_law_count"=some (.ref t.a__law_count)
 b__law_count:az K t.d__law_count ["_law_view"] []
 F__law_made:Fun K "_law_made" "_law_made" gv t.a__law_made t.d__law_made
 m__law_made:mg "_law_made"=some (.ref t.a__law_made)
 b__law_made:az K t.d__law_made ["_law_drawn_here", "_law_room"] []
 F__law_touched:Fun K "_law_touched" "_law_touched" dO t.a__law_touched t.d__law_touched
 m__law_touched:mg "_law_touched"=some (.ref t.a__law_touched)
 b__law_touched:az K t.d__law_touched ["_law_drawn_here"] []
 F__law_clash:Fun K "_law_clash" "_law_clash" dm t.a__law_clash t.d__law_clash
 m__law_clash:mg "_law_clash"=some (.ref t.a__law_clash)
 b__law_clash:az K t.d__law_clash ["_law_one", "_law_other"] []
 F__law_levels:Fun K "_law_levels" "_law_levels" eL t.a__law_levels t.d__law_levels
 m__law_levels:mg "_law_levels"=some (.ref t.a__law_levels)
 b__law_levels:az K t.d__law_levels ["_law_drawn_here"] []
 F__law_due:Fun K "_law_due" "_law_due" fM t.a__law_due t.d__law_due
 m__law_due:mg "_law_due"=some (.ref t.a__law_due)
 b__law_due:az K t.d__law_due ["_law_levels_here"] []
 F__law_right:Fun K "_law_right" "_law_right" dj t.a__law_right t.d__law_right
 m__law_right:mg "_law_right"=some (.ref t.a__law_right)
 b__law_right:az K t.d__law_right ["_law_found", "_law_due_here"] []
 F__law_chained:Fun K "_law_chained" "_law_chained" dQ t.a__law_chained t.d__law_chained
 m__law_chained:mg "_law_chained"=some (.ref t.a__law_chained)
 b__law_chained:az K t.d__law_chained ["_law_found", "_law_drawn_here", "_law_levels_here"] []
 F__law_told:Fun K "_law_told" "_law_told" gu t.a__law_told t.d__law_told
 m__law_told:mg "_law_told"=some (.ref t.a__law_told)
 b__law_told:az K t.d__law_told ["_law_way", "_law_statements"] []
 F__law_refused:Fun K "_law_refused" "_law_refused" dP t.a__law_refused t.d__law_refused
 m__law_refused:mg "_law_refused"=some (.ref t.a__law_refused)
 b__law_refused:az K t.d__law_refused ["_law_script", "_law_room", "_law_built"] []
 F_law:Fun K "law" "law" i6 t.a_law t.d_law
 m_law:mg "law"=some (.ref t.a_law)
 b_law:az K t.d_law ["_law_script"] []
 z_ValueError:mg "ValueError"=none
 z_all:mg "all"=none
 z_bool:mg "bool"=none
 z_enumerate:mg "enumerate"=none
 z_int:mg "int"=none
 z_isinstance:mg "isinstance"=none
 z_len:mg "len"=none
 z_list:mg "list"=none
 z_max:mg "max"=none
 z_min:mg "min"=none
 z_range:mg "range"=none
 z_sum:mg "sum"=none
 z_tuple:mg "tuple"=none
 z_zip:mg "zip"=none
 lt_dealt:BP K t.d_dealt.code 476
 lt_chain:BP K t.d_chain.code 486
theorem Tx.e_NoPair{K:W.Frag}{mg:Str->Option Value}{t:Adr}(T:Tx K mg t):r9 K t.a_NoPair:=⟨T.ga_NoPair,T.gn_NoPair,T.mb_NoPair,T.mo_NoPair,T.fc_NoPair,T.ocs,T.oct,T.hd_NoPair⟩
theorem Tx.e_TooMany{K:W.Frag}{mg:Str->Option Value}{t:Adr}(T:Tx K mg t):r9 K t.a_TooMany:=⟨T.ga_TooMany,T.gn_TooMany,T.mb_TooMany,T.mo_TooMany,T.fc_TooMany,T.ocs,T.oct,T.hd_TooMany⟩
theorem Tx.k_NoPair_NoPair{K:W.Frag}{mg:Str->Option Value}{t:Adr}(T:Tx K mg t):W.kitOne K (.ref t.a_NoPair) (.ref t.a_NoPair)=some true:=vO T.kc_NoPair_NoPair T.kt_NoPair_NoPair T.ks_NoPair_NoPair
theorem Tx.k_NoPair_TooMany{K:W.Frag}{mg:Str->Option Value}{t:Adr}(T:Tx K mg t):W.kitOne K (.ref t.a_NoPair) (.ref t.a_TooMany)=some false:=Bu T.kn_NoPair_TooMany T.kc_NoPair_TooMany T.kt_NoPair_TooMany T.ks_NoPair_TooMany
theorem Tx.k_TooMany_NoPair{K:W.Frag}{mg:Str->Option Value}{t:Adr}(T:Tx K mg t):W.kitOne K (.ref t.a_TooMany) (.ref t.a_NoPair)=some false:=Bu T.kn_TooMany_NoPair T.kc_TooMany_NoPair T.kt_TooMany_NoPair T.ks_TooMany_NoPair
theorem Tx.k_TooMany_TooMany{K:W.Frag}{mg:Str->Option Value}{t:Adr}(T:Tx K mg t):W.kitOne K (.ref t.a_TooMany) (.ref t.a_TooMany)=some true:=vO T.kc_TooMany_TooMany T.kt_TooMany_TooMany T.ks_TooMany_TooMany
theorem Tx.k_NoPair_ValueError{K:W.Frag}{mg:Str->Option Value}{t:Adr}(T:Tx K mg t):W.kitOne K (.ref t.a_NoPair) (.type "ValueError")=some true:=Bt (by decide +kernel) T.ks_NoPair_ValueError
theorem Tx.k_TooMany_ValueError{K:W.Frag}{mg:Str->Option Value}{t:Adr}(T:Tx K mg t):W.kitOne K (.ref t.a_TooMany) (.type "ValueError")=some true:=Bt (by decide +kernel) T.ks_TooMany_ValueError
def tqs:List (Addr × Str):=[(476,yB "dealt"),(486,yB "chain")]
local macro_rules | `(tactic| trivial) => `(tactic| first | exact Or.inl rfl | exact Or.inr rfl | exact Or.inr (Or.inl rfl) | exact Or.inr (Or.inr rfl) | assumption)
local macro_rules | `(tactic| simp! only [$xs,*]) => do
  let ys := xs.getElems.map λ x => (⟨x.raw⟩ : Lean.TSyntax `Lean.Parser.Tactic.simpLemma)
  let zs ← ("↓reduceIte ↓dZ ↓Ex ↓Ew ↓Eu ↓Et ↓Es ↓Er ↓Ep ↓Eo ↓En ↓Em ↓Az ↓Ay ↓Ax ↓Bq ↓Kk ↓J1 ↓LL ↓Ke ↓JZ ↓sQ ↓qm ↓sR ↓qo ↓Hj ↓GN ↓HN ↓GU ↓Kj ↓J0 ↓Hr ↓J5 ↓HA ↓GO ↓Aa ↓DU ↓Dm ↓xy ↓xt ↓xq ↓Dp ↓Kr ↓J6 ↓Di ↓GK ↓GL ↓DT ↓Dk ↓Hq ↓Bo ↓HK ↓GS ↓Km ↓Hm ↓G8 ↓Hn ↓Kl ↓J8 ↓GZ ↓GY ↓sS ↓qq ↓o3 ↓qp ↓xo ↓xn ↓xm ↓xk ↓xj ↓xg ↓xi ↓xh ↓xf ↓w9 ↓xl ↓HH ↓Ku ↓J7 ↓HG ↓GR ↓HL ↓wZ ↓Hh ↓sP ↓Kn ↓J9 ↓aD ↓GP ↓Kg ↓D4 ↓xp ↓Hs ↓HP ↓Kd ↓zS ↓Hg ↓GJ ↓zX ↓zQ ↓DH ↓Kv ↓Hw ↓Ab ↓o5 ↓o4 ↓Kc ↓B5 ↓Ko ↓Kp ↓Kq ↓G9 ↓Ks ↓Kt ↓DY ↓Gx ↓Dn ↓DI ↓Dh ↓HS ↓tm ↓sY ↓sZ ↓k8 ↓k7 ↓ni ↓kJ ↓mJ ↓u0 ↓bJ ↓nh ↓nc ↓DO ↓Kh ↓Ki ↓GW ↓G0 ↓LO ↓DC ↓Hk ↓Hl ↓Bp ↓DD ↓DF ↓GX ↓HB ↓D0 ↓Ha ↓aK ↓aF ↓ji ↓Dt ↓Ds ↓DP ↓DQ ↓Ht ↓Hd ↓DG ↓DJ ↓DK ↓Dy ↓sU ↓zY ↓DM ↓DA ↓DN ↓w6 ↓w5 ↓DB ↓JX ↓Dc ↓Hf ↓wX ↓JY ↓zT ↓Du ↓DR ↓DS ↓wY ↓Hu ↓Hv ↓D5 ↓J4 ↓Hz ↓Dl ↓Hx ↓Hy ↓Dr ↓GI ↓GH ↓GG ↓GF ↓GD ↓GC ↓GB ↓GA ↓Gz ↓Gy ↓Dg ↓Df ↓De ↓Kb ↓LN ↓LM ↓zW ↓Dx ↓DZ ↓DE ↓DL ↓Dz ↓DV ↓DW ↓DX ↓zV ↓D9 ↓Ac ↓Hi ↓Hb ↓Ho ↓Ka ↓D6 ↓Dw ↓HI ↓HJ ↓GQ ↓Dv ↓Hc ↓zU ↓zZ ↓zR ↓Dq ↓Dj dZ cE aO ur zl zk Ad zi t8 ag Ck Cn Cm Cq FI Cr Co Cp zd As LV zr AI EF KJ KI vR EB x9 i4 ir gA rM dD EL Ik EK Option.isSome_some Option.isSome_none Option.map_some List.length_cons List.length_nil List.length_map List.map_cons List.map_nil and_true true_and and_self implies_true reduceCtorEq decide_true decide_false Bool.not_true Bool.not_false if_true if_false decide_eq_true_eq Bool.false_eq_true Bool.not_eq_true' decide_eq_false_iff_not Bool.and_true Bool.true_and Bool.and_self Bool.and_eq_true Int.reduceToNat Int.reducePow Int.reduceMul Int.reduceAdd Int.reduceSub Int.reduceNeg Int.reduceLT Int.reduceLE Int.reduceEq Int.reduceNe Int.reduceDiv Int.reduceMod Nat.reduceAdd Nat.reduceLeDiff Nat.reduceLT Nat.reduceMul Nat.reducePow gt_iff_lt ge_iff_le ne_eq false_implies true_implies eq_self String.reduceEq Int.cast_ofNat_Int not_true_eq_false not_false_eq_true false_and and_false List.cons_append List.nil_append List.append_nil Kw".splitOn " ").toArray.mapM λ s => if s.startsWith "↓" then `(Lean.Parser.Tactic.simpLemma| ↓ $(Lean.mkIdent (s.replace "↓" "").toName):ident) else `(Lean.Parser.Tactic.simpLemma| $(Lean.mkIdent s.toName):ident)
  `(tactic| simp (config := { failIfUnchanged := false, maxDischargeDepth := 30, maxSteps := 10000000 }) only [$zs,*, $ys,*, *])
local macro_rules | `(%[$xs,*|$k:num]) => do
  let a := xs.getElems
  let s (i : Nat) : String := a[i]!.raw.getId.toString
  let I (n : String) : Lean.TSyntax `term := ⟨(Lean.mkIdent n.toName).raw⟩
  match k.getNat with
  | 41 => `($(a[0]!) (P := $(I "P")) (w := $(I "w")) (base := $(I "base")) $(I "T"))
  | 0 => `(@pvN _ $(a[0]!) _ _ (by rfl) (by trivial) (by decide) (by decide))
  | 1 => if a.size = 1 then `(@ES _ _ _ _ _ $(a[0]!) (@aH _) (by rfl)) else `(@ES _ _ _ _ _ $(a[0]!) $(a[1]!) (by rfl))
  | 2 => `(@eW _ _ _ _)
  | 7 => `(by trivial)
  | 8 => `(by omega)
  | 3 => `(@vI _ _ _ _ _ _ _ _ _ _ _ _ _ _ _ _ $(I ("G_" ++ s 0)) ($(I "hr.mono") (by decide)) (by rfl) $(I ("T.m_" ++ s 0)) $(I ("T.F_" ++ s 0 ++ ".kp")) $(I ("T.b_" ++ s 0)) .nil bu $(a[1]!) (by decide) (by rfl) (by rfl))
  | 4 => `(@dX _ _ $(a[0]!) _ _ _ _ ($(a[1]!)).nd rfl (Or.inl rfl) $(a[2]!) (by rfl) (by trivial))
  | 5 => `(@vG _ _ $(a[0]!) _ ($(a[1]!)).nd rfl (Or.inl rfl) (by trivial))
  | 6 => `(@iW _ _ _ _ _ _ _ $(Lean.Syntax.mkStrLit (s 0)) _ $(a[1]!) (by rfl) $(I ("T.z_" ++ s 0)) (by decide +kernel) $(a[2]!) (by decide) (by decide) (by rfl) (by rfl))
  | 9 => `(@gI _ _ _ _ _ $(a)*)
  | 10 => `(@lT _ _ _ $(a)*)
  | 11 => `(@eV _ _ _ _ _ _ _ _ $(a)*)
  | 12 => `(@CK _ _ _ _ $(a)*)
  | 13 => `(@uV _ _ _ _ $(a)*)
  | 14 => `(@BX _ _ _ _ _ _ _ $(a)*)
  | 15 => `(@zx _ _ _ _ _ _ _ _ $(a)*)
  | 16 => `(@CB _ _ _ _ $(a)*)
  | 17 => `(@BW _ _ _ _ _ _ _ _ $(a)*)
  | 18 => `(@FW _ _ _ _ $(a)*)
  | 19 => `(@vG _ _ $(a)*)
  | 20 => `(@wF _ _ _ _ _ $(a)*)
  | 21 => `(@FV _ _ _ _ _ _ _ _ $(a)*)
  | 22 => `(@CJ _ _ _ _ _ $(a)*)
  | 23 => `(@CL _ _ _ _ _ $(a)*)
  | 24 => `(@dh _ _ _ $(a)*)
  | 25 => `(@zE _ _ _ _ _ _ _ _ _ _ _ _ _ _ _ _ _ $(a)*)
  | 26 => `(@Cy _ _ _ $(a)*)
  | 27 => `(@JJ _ _ _ _ _ _ _ $(a)*)
  | 28 => `(@CM _ _ _ _ _ _ _ _ _ _ _ $(a)*)
  | 29 => `(@FT _ _ _ _ $(a)*)
  | 30 => `(@JK _ _ _ _ _ _ _ _ _ _ _ _ $(a)*)
  | 31 => `(@FX _ _ _ _ _ $(a)*)
  | 32 => `(@FP _ _ _ _ $(a)*)
  | 33 => `(@wD _ _ _ _ _ _ $(a)*)
  | 34 => `(@zA _ _ _ _ _ _ _ _ $(a)*)
  | 35 => `(@CN _ _ _ _ _ _ _ $(a)*)
  | 36 => `(@wH _ _ _ _ _ _ _ _ _ _ _ _ _ _ _ _ _ $(a)*)
  | 37 => `(@FQ _ _ _ _ _ _ _ $(a)*)
  | 38 => `(@CA _ _ _ _ _ _ _ _ _ _ _ _ _ $(a)*)
  | 39 => `(@vI _ _ _ _ _ _ _ _ _ _ _ _ _ _ _ _ $(a)*)
  | 40 => `(@wG _ _ _ _ _ _ _ _ _ _ _ _ _ $(a)*)
  | _ => Lean.Macro.throwUnsupported
local macro_rules | `(∅) => `(by rfl)
local macro_rules | `(⋯) => `(by decide)
local macro_rules | `(nofun) => `(by decide +kernel)
local macro_rules | `(tactic| ac_rfl) => `(tactic| simp! only [and_true])
local macro_rules | `(tactic| exists $x:ident) => `(tactic| replace $x := λ (_ : Unit) => $x)
section
variable {P:Program}{w:World}{K:PySem.W.Frag}{mg:Str->Option Value}{base:Heap}{t:Adr}
def uR(K:W.Frag)(a:Addr)(ns:List Int):Sp:=λ vs H Q E=>∃ (k:Int) (m:Int),vs=[.ref a,.int k,.int m]/\(SqL K H a (ns.map V.int)/\ns.length<=63/\(0<=k/\k < 1000)/\0 < m/\∀ z:Int,0<=z->z < m->Q (.int z) H)
theorem bR(K:W.Frag)(a:Addr)(ns:List Int)(k:Int)(m:Int)(H:Hp)(Q:VK)(E:XK):uR K a ns [.ref a,.int k,.int m] H Q E=(SqL K H a (ns.map V.int)/\ns.length<=63/\(0<=k/\k < 1000)/\0 < m/\∀ z:Int,0<=z->z < m->Q (.int z) H):=ug (f:=λ (k:Int) (m:Int)=>[.ref a,.int k,.int m]) (λ _ _ _ _ h=>by cases h;exact⟨rfl,rfl⟩) k m
theorem Ak(K:W.Frag)(a:Addr)(ns:List Int){vs:List V}{H:Hp}{Q:VK}{E:XK}(h:uR K a ns vs H Q E):vs.length=3:=uh h λ _ _=>rfl
theorem fB(T:Tx K mg t)(a:Addr)(ns:List Int):aW P w K mg base CX0 1 t.a__law_draw t.d__law_draw ["_law_script", "_law_k", "_law_many"] (uR K a ns):=by
 refine T.F__law_draw.ok eI (λ vs H Q E h=>Ak _ _ _ h) (λ c A o s H vs Q E hr h=>?_)
 ·obtain⟨k,m,rfl,hS,hl,⟨hk0,hk1⟩,hm,kk⟩:=h;have fin:∀ z:Int,Q (.int (z % m)) H:=λ z=>kk _ (Ol _ %[0|8]) (N5 _ hm)
  refine⟨_,(gI (BW (pY Fg (pv 1) (iW (id := "len") dA ∅ T.z_len nofun (ES (pv 0) aH)) (aw _))
   (lT (uV (eV i9 (BX p7 (pv 0) (pv 1) (λ _ _=>rfl)) (pv 2))))
   ay)
  (gI (dX (i:=3) eI.nd rfl (Or.inl rfl) (eV qL (eV iB (eV iB (pv 1) (pv 1)) eW) eW))
  (gI (BW (pY Fh (iW (id := "len") dA ∅ T.z_len nofun (ES (pv 0) aH)) eW (aw _))
   (gI (dX (i:=4) eI.nd rfl (Or.inl rfl) (eV i9 (BX p7 (pv 0) (eV i9 (pv 1) (iW (id := "len") dA ∅ T.z_len nofun (ES (pv 0) aH))) (λ _ _=>rfl)) eW))
   (lT (dX (i:=3) eI.nd rfl (Or.inl rfl) (eV qL (eV iB (pv 4) (eV qL eW (eV iB (eV iB eW (pv 1)) (pv 1)))) (eV iB (pv 1) eW)))))
   ay)
  (lT (uV (eV i9 (eV i9 (eV iB (eV i9 (pv 3) eW) eW) eW) (pv 2))))))),?_⟩
  refine⟨_,rfl,_,rfl,a,_,rfl,.inl hS,_,_,rfl,rfl,_,rfl,?_⟩;refine Ln (λ h=>?_) (λ h=>?_)
  ·have h1:k < (ns.length:Int):=by simpa using h
   obtain⟨z,hz,_⟩:=rS ns k hk0 h1;exact⟨_,rfl,_,rfl,a,_,k,_,rfl,rfl,hS,hz,_,rfl,_,_,rfl,rfl,hm,fin _⟩
  ·refine⟨_,rfl,_,rfl,_,_,rfl,rfl,.inl ⟨by omega,by omega⟩,_,_,rfl,rfl,.inr ⟨by decide,by decide⟩,_,_,rfl,rfl,?_⟩;refine⟨_,rfl,a,_,rfl,.inl hS,_,_,rfl,rfl,_,rfl,?_⟩;refine Ln (λ h2=>?_) (λ h2=>?_)
   ·have h3:0 < (ns.length:Int):=by simpa using h2
    have h4:(0:Int) < ((ns.map V.int).length:Int):=by simpa using h3
    obtain⟨z,hz,_⟩:=rS ns (k % ((ns.map V.int).length:Int)) (Ol _ %[0|8]) (by have:=N5 k h4;simpa using this);refine⟨_,rfl,_,rfl,_,rfl,a,_,rfl,.inl hS,_,_,rfl,rfl,h4,a,_,_,_,rfl,rfl,hS,hz,_,_,rfl,rfl,(by first|decide|(show (0:Int) < _;decide)),?_⟩;refine⟨_,rfl,_,rfl,_,_,rfl,rfl,.inl ⟨by decide,by decide⟩,_,rfl,_,_,rfl,rfl,.inr ⟨by omega,by omega⟩,_,_,rfl,rfl,_,_,rfl,rfl,?_,?_⟩
    ·refine .inl ⟨?_,?_⟩
     ·have:=Ol z (show (999999937:Int) ≠ 0 by decide);omega
     ·have:=N5 z (show (0:Int) < 999999937 by decide);omega
    refine⟨_,rfl,_,_,rfl,rfl,.inr ⟨by decide,by decide⟩,_,_,rfl,rfl,?_⟩;exact⟨_,rfl,_,_,rfl,rfl,(by first|decide|(show (0:Int) < _;decide)),_,_,rfl,rfl,.inr ⟨by decide,by decide⟩,_,_,rfl,rfl,(by first|decide|(show (0:Int) < _;decide)),_,rfl,_,_,rfl,rfl,hm,fin _⟩
   ·exact⟨_,rfl,_,_,rfl,rfl,(by first|decide|(show (0:Int) < _;decide)),_,_,rfl,rfl,.inr ⟨by decide,by decide⟩,_,_,rfl,rfl,(by first|decide|(show (0:Int) < _;decide)),_,rfl,_,_,rfl,rfl,hm,fin _⟩
def lQ  : Sp:=λ vs H Q E=>∃ (x:V),vs=[x]/\(aX (isW H x) (kE4 H Q))
theorem cV  (x:V) (H:Hp) (Q:VK) (E:XK):lQ  [x] H Q E=(aX (isW H x) (kE4 H Q)):=g9 (f:=λ (x:V)=>[x]) (λ _ _ h=>by cases h;exact rfl) x
theorem oh  {vs:List V}{H:Hp}{Q:VK}{E:XK}(h:lQ  vs H Q E):vs.length=1:=gb h λ _=>rfl
theorem gS(T:Tx K mg t):aW P w K mg base CX0 1 t.a__law_whole t.d__law_whole ["_law_found"] lQ:=by
 refine T.F__law_whole.ok pq (λ vs H Q E h=>oh h) (λ c A o s H vs Q E hr h=>?_)
 ·obtain⟨x,rfl,h⟩:=h;obtain⟨b,hb,k⟩:=ao h;clear h;rw [B5] at k;refine⟨_,%[%[%[%[isinstance,bT,%[%[0|0],%[(@cU _ _ (.ty "int") (.type "int") _ ∅ T.z_int nofun rfl ⋯ ⋯)|1]|1]|6],(@kR _ _ _ _ _ (@vH _ _ _ _ %[isinstance,bT,%[%[0|0],%[(@cU _ _ (.ty "bool") (.type "bool") _ ∅ T.z_bool nofun rfl ⋯ ⋯)|1]|1]|6]))|35]|13]|10],?_⟩;rw [show au ["_law_found"] [x]=[some (x)] from rfl]
  cases x with
  | int i=>cases hb;ac_rfl
  | bl i=>cases hb;ac_rfl
  | non=>cases hb;ac_rfl
  | str i=>cases hb;ac_rfl
  | ref p=>
   obtain⟨rfl,o,ho,ht⟩:=vP hb
   rcases ht with ht|ht|ht<;>ac_rfl
  | _=>cases hb
theorem gy(T:Tx K mg t):aW P w K mg base CX0 1 t.a_is_whole t.d_is_whole ["thing"] lQ:=by
 refine T.F_is_whole.ok t5 (λ vs H Q E h=>oh h) (λ c A o s H vs Q E hr h=>?_)
 ·obtain⟨x,rfl,h⟩:=h;obtain⟨b,hb,k⟩:=ao h;clear h;rw [B5] at k;refine⟨_,%[%[%[%[isinstance,bT,%[%[0|0],%[(@cU _ _ (.ty "int") (.type "int") _ ∅ T.z_int nofun rfl ⋯ ⋯)|1]|1]|6],(@kR _ _ _ _ _ (@vH _ _ _ _ %[isinstance,bT,%[%[0|0],%[(@cU _ _ (.ty "bool") (.type "bool") _ ∅ T.z_bool nofun rfl ⋯ ⋯)|1]|1]|6]))|35]|13]|10],?_⟩;rw [show au ["thing"] [x]=[some (x)] from rfl]
  cases x with
  | int i=>cases hb;ac_rfl
  | bl i=>cases hb;ac_rfl
  | non=>cases hb;ac_rfl
  | str i=>cases hb;ac_rfl
  | ref p=>
   obtain⟨rfl,o,ho,ht⟩:=vP hb
   rcases ht with ht|ht|ht<;>ac_rfl
  | _=>cases hb
def kSz(F:List Int->Prop):List Int->Prop:=λ ns=>nE ns/\F ns
theorem Kf(F:List Int->Prop)(ns:List Int):kSz F ns=(nE ns/\F ns):=rfl
def Ju(H:Hp)(Q:VK):List Int->Prop:=λ ns=>Q (.int (ak ns)) H
theorem AW(H:Hp)(Q:VK)(ns:List Int):Ju H Q ns=Q (.int (ak ns)) H:=rfl
def pU  : Sp:=λ vs H Q E=>∃ (p:Addr),vs=[.ref p]/\(aX (aO H p) (lP (kSz (Ju H Q))))
theorem yt  (p:Addr) (H:Hp) (Q:VK) (E:XK):pU  [.ref p] H Q E=(aX (aO H p) (lP (kSz (Ju H Q)))):=g9 (f:=λ (p:Addr)=>[.ref p]) (λ _ _ h=>by cases h;exact rfl) p
theorem xR  {vs:List V}{H:Hp}{Q:VK}{E:XK}(h:pU  vs H Q E):vs.length=1:=gb h λ _=>rfl
theorem qe(T:Tx K mg t):aW P w K mg base CX0 1 t.a_count_of t.d_count_of ["sizes"] pU:=by
 refine T.F_count_of.ok fQ (λ vs H Q E h=>xR h) (λ c A o s H vs Q E hr h=>?_)
 ·obtain⟨p,rfl,h⟩:=h;obtain⟨xs,hp,ns,rfl,hs,k⟩:=ao h;replace hp:=di hp;rw [AW] at k;refine⟨_,%[%[1,fQ,%[0|2]|4],%[%[Mt,rfl,%[%[0|0]|18],%[2,fQ|5],%[%[1,fQ,%[CW,%[1|0],%[2|0]|11]|4]|10],(by intros;rfl)|21],%[%[%[1|0]|13]|10]|9]|9],?_⟩;rw [show au ["sizes", "count", "size"] [.ref p]=[some (.ref p),none,none] from rfl];ac_rfl;refine aZ (xs:=ns.map V.int) (λ i σ H'=>∃ v:Option V,σ=[some (.ref p),some (.int (ak (ns.take i))),v]/\H'=H) ⟨_,rfl,rfl⟩ (λ i σ H' _ ⟨_,_,e⟩=>by subst e;exact hp) ?_ ?_
  ·rintro i x _ _ hi ⟨v,rfl,rfl⟩;rw [Mq] at hi;obtain⟨z,hz,rfl⟩:=Mg.mp hi;have e:=fN ns i z hz;have b1:=(hs.take i).prod;have b2:=hs.2 z (Mu hz)
   have c1:(ak (ns.take i)).natAbs < 2 ^ 256:=by
    generalize ak (ns.take i)=y at b1;have:(1000000000:Int) ^ 8 < 2 ^ 256:=by decide
    omega
   have c2:z.natAbs < 2 ^ 256:=by omega
   clear b1 b2;simp! only [↓aD,AO];exact⟨_,rfl⟩
  ·rintro _ _ ⟨v,rfl,rfl⟩;rw [Md,MX];ac_rfl
def ml  : Sp:=λ vs H Q E=>∃ (i:Int) (lo:Int) (hi:Int),vs=[.int i,.int lo,.int hi]/\(Q (.bl (decide (lo<=i) && decide (i<=hi))) H)
theorem lu  (i:Int) (lo:Int) (hi:Int) (H:Hp) (Q:VK) (E:XK):ml  [.int i,.int lo,.int hi] H Q E=(Q (.bl (decide (lo<=i) && decide (i<=hi))) H):=yD (f:=λ (i:Int) (lo:Int) (hi:Int)=>[.int i,.int lo,.int hi]) (λ _ _ _ _ _ _ h=>by cases h;exact⟨rfl,rfl,rfl⟩) i lo hi
theorem tu  {vs:List V}{H:Hp}{Q:VK}{E:XK}(h:ml  vs H Q E):vs.length=3:=yE h λ _ _ _=>rfl
theorem iE(T:Tx K mg t):aW P w K mg base CX0 2 t.a_is_within t.d_is_within ["thing", "low", "high"] ml:=by
 have G_is_whole:=%[gy|41];refine T.F_is_within.ok qG (λ vs H Q E h=>tu h) (λ c A o s H vs Q E hr h=>?_)
 ·obtain⟨i,lo,hi,rfl,k⟩:=h;refine⟨_,%[%[%[%[is_whole,%[%[0|0]|1]|3],(@kR _ _ _ _ _ (@wI _ _ _ _ _ _ _ _ _ _ _ _ ux ux %[1|0] %[0|0] %[2|0] ∅))|35]|13]|10],?_⟩;rw [show au ["thing", "low", "high"] [.int i,.int lo,.int hi]=[some (.int i),some (.int lo),some (.int hi)] from rfl]
  by_cases h0:lo<=i
  ·rw [MW h0,Bool.true_and] at k;simp! only [↓cV]
  ·rw [MB h0,Bool.false_and] at k;simp! only [↓cV]
def uN  : Sp:=λ vs H Q E=>∃ (i:Int),vs=[.int i]/\(Q (.bl (decide (1<=i) && decide (i<=1000000000))) H)
theorem AK  (i:Int) (H:Hp) (Q:VK) (E:XK):uN  [.int i] H Q E=(Q (.bl (decide (1<=i) && decide (i<=1000000000))) H):=g9 (f:=λ (i:Int)=>[.int i]) (λ _ _ h=>by cases h;exact rfl) i
theorem Ag  {vs:List V}{H:Hp}{Q:VK}{E:XK}(h:uN  vs H Q E):vs.length=1:=gb h λ _=>rfl
theorem sI(T:Tx K mg t):aW P w K mg base CX0 3 t.a_is_size t.d_is_size ["thing"] uN:=by
 have G_is_within:=%[iE|41];refine T.F_is_size.ok yv (λ vs H Q E h=>Ag h) (λ c A o s H vs Q E hr h=>?_)
 ·obtain⟨i,rfl,k⟩:=h;refine⟨_,%[%[%[is_within,%[%[0|0],%[%[0|2],%[(@cS _ _ (.int 1000000000) _ _ ∅ T.m_MOST_SIZE.choose_spec ⟨_,rfl⟩ ⋯)|1]|1]|1]|3]|13]|10],?_⟩;rw [show au ["thing"] [.int i]=[some (.int i)] from rfl];simp! only [↓lu]
abbrev rY  (p:Addr) (H:Hp) (Q:VK) (E:XK):Prop:=∃ a:Int × Int,H p=some (.tup [.int a.1,.int a.2])/\1<=a.1/\a.1<=1000000000/\Q (.bl true) H
def uS  : Sp:=λ vs H Q E=>∃ (p:Addr),vs=[.ref p]/\(rY  p H Q E)
theorem AM  (p:Addr) (H:Hp) (Q:VK) (E:XK):uS  [.ref p] H Q E=(rY  p H Q E):=g9 (f:=λ (p:Addr)=>[.ref p]) (λ _ _ h=>by cases h;exact rfl) p
theorem Am  {vs:List V}{H:Hp}{Q:VK}{E:XK}(h:uS  vs H Q E):vs.length=1:=gb h λ _=>rfl
theorem sJ(T:Tx K mg t):aW P w K mg base CX0 4 t.a_is_axis t.d_is_axis ["thing"] uS:=by
 have G_is_size:=%[sI|41];have G_is_whole:=%[gy|41];refine T.F_is_axis.ok yw (λ vs H Q E h=>Am h) (λ c A o s H vs Q E hr h=>?_)
 ·obtain⟨p,rfl,a,hp,h1,h2,k⟩:=h;refine⟨_,%[%[%[%[isinstance,bT,%[%[0|0],%[(@cU _ _ (.ty "tuple") (.type "tuple") _ ∅ T.z_tuple nofun rfl ⋯ ⋯)|1]|1]|6],%[(@lW _ _ _ _ _ _ _ _ (iA hr.units) %[len,aL,%[%[0|0]|1]|6] %[0|2] (aw _)),%[%[is_size,%[%[bL,%[0|0],%[0|2],(λ _ _=>rfl)|14]|1]|3],(@kR _ _ _ _ _ %[is_whole,%[%[bL,%[0|0],%[0|2],(λ _ _=>rfl)|14]|1]|3])|35]|35]|35]|13]|10],?_⟩;rw [show au ["thing"] [.ref p]=[some (.ref p)] from rfl];simp! only [↓AK,↓cV]
abbrev rX  (p:Addr) (H:Hp) (Q:VK) (E:XK):Prop:=∃ a:Int × Int,H p=some (.tup [.int a.1,.int a.2])/\∀ (r:Addr) (H':Hp),H r=none->Ext H H'->H' r=some (.tup [.int (aU a).1,.int (aU a).2])->Q (.ref r) H'
def uQ  : Sp:=λ vs H Q E=>∃ (p:Addr),vs=[.ref p]/\(rX  p H Q E)
theorem AL  (p:Addr) (H:Hp) (Q:VK) (E:XK):uQ  [.ref p] H Q E=(rX  p H Q E):=g9 (f:=λ (p:Addr)=>[.ref p]) (λ _ _ h=>by cases h;exact rfl) p
theorem Aj  {vs:List V}{H:Hp}{Q:VK}{E:XK}(h:uQ  vs H Q E):vs.length=1:=gb h λ _=>rfl
theorem oY(T:Tx K mg t):aW P w K mg base CX0 1 t.a_kept_axis t.d_kept_axis ["axis"] uQ:=by
 refine T.F_kept_axis.ok qF (λ vs H Q E h=>Aj h) (λ c A o s H vs Q E hr h=>?_)
 ·obtain⟨p,rfl,a,hp,k⟩:=h;refine⟨_,%[%[%[%[%[bL,%[0|0],%[0|2],(λ _ _=>rfl)|14],%[(@rp _ _ _ _ _ _ _ _ %[pF,%[bL,%[0|0],%[0|2],(λ _ _=>rfl)|14],%[0|2],(aw _)|15] %[bL,%[0|0],%[0|2],(λ _ _=>rfl)|14] %[0|2])|1]|1]|22]|13]|10],?_⟩;rw [show au ["axis"] [.ref p]=[some (.ref p)] from rfl];have e1:(aU a).1=a.1:=rfl
  by_cases h1:1 < a.1
  ·have e2:(aU a).2=a.2:=My h1;rw [e1,e2] at k;ac_rfl;exact λ r H' h e h'=>k r H' h e h'
  ·have e2:(aU a).2=0:=Mw h1;rw [e1,e2] at k;ac_rfl;exact λ r H' h e h'=>k r H' h e h'
abbrev rZ  (p:Addr) (H:Hp) (Q:VK) (E:XK):Prop:=∃ axs:List (Int × Int),aB H p (axL axs)/\fF axs/\∀ H',Ext H H'->Q (.bl true) H'
def uT  : Sp:=λ vs H Q E=>∃ (p:Addr),vs=[.ref p]/\(rZ  p H Q E)
theorem AN  (p:Addr) (H:Hp) (Q:VK) (E:XK):uT  [.ref p] H Q E=(rZ  p H Q E):=g9 (f:=λ (p:Addr)=>[.ref p]) (λ _ _ h=>by cases h;exact rfl) p
theorem An  {vs:List V}{H:Hp}{Q:VK}{E:XK}(h:uT  vs H Q E):vs.length=1:=gb h λ _=>rfl
theorem qg(T:Tx K mg t):aW P w K mg base CX0 5 t.a_are_axes t.d_are_axes ["thing"] uT:=by
 have G_is_axis:=%[sJ|41];refine T.F_are_axes.ok t7 (λ vs H Q E h=>An h) (λ c A o s H vs Q E hr h=>?_)
 ·obtain⟨p,rfl,axs,⟨ys,hp,al⟩,ha,k⟩:=h;refine⟨_,%[%[%[%[isinstance,bT,%[%[0|0],%[(@cU _ _ (.ty "list") (.type "list") _ ∅ T.z_list nofun rfl ⋯ ⋯)|1]|1]|6],%[(@lW _ _ _ _ _ _ _ _ ux %[len,aL,%[%[0|0]|1]|6] (@cS _ _ (.int 8) _ _ ∅ T.m_MOST_AXES.choose_spec ⟨_,rfl⟩ ⋯) (aw _)),(@kR _ _ _ _ _ %[all,(yg rfl),%[%[(["axis", "thing"]),(1),(aQ (aa fL) ["thing"] rfl rfl nofun),rfl,%[%[0|0]|18],(λ C s₀ H₀ ex pn=>%[(0),_,(show List.Nodup (["axis", "thing"]:List Str) from by decide +kernel),rfl,(Or.inl rfl),%[0|7]|19]),(λ C s₀ H₀ ex pn=>(@bF _)),(λ C s₀ H₀ ex pn=>%[is_axis,%[%[0|0]|1]|3]),(by intros;rfl)|28]|1]|6])|35]|35]|13]|10],?_⟩;rw [show au ["thing"] [.ref p]=[some (.ref p)] from rfl];have hl:ys.length=axs.length:=by rw [al.1];unfold axL;rw [length_map]
  have hl8:(axs.length:Int)<=8:=by have:=ha.1;omega
  ac_rfl;refine bQ ys (λ _=>true) (λ _=>.bl true) (λ z x H'=>x=z/\H' p=some (.lst ys)) (nH hp).1 (nH hp).2 (aC %[0|8]) ?_ ?_
  ·intro D z x H' N1 N0 hz hD e ⟨hx,_⟩ k1 _;subst hx;obtain⟨i,hi,rfl⟩:=Nx hz;have hi':i < axs.length:=by rw [←hl];exact hi
   obtain⟨q,hq1,hq2⟩:=al.2 i [axs[i].1,axs[i].2] ys[i] (by unfold axL;rw [getElem?_map,getElem?_eq_getElem hi'];rfl) (getElem?_eq_getElem hi);have hb:=ha.2 _ (getElem_mem hi');have k1':=k1 rfl H' (Ext.refl _);have hq3:=e.at hq2;rw [hq1];clear k1 k hp al;simp! only [↓aF,↓aK];rw [AM];exact⟨axs[i],hq3,hb.1,hb.2,k1'⟩
  ·intro D H' hD e hD';have hD2:H' D=some (.lst ((ys.map λ _=>true).map V.bl)):=by rw [hD',ud,NG];rfl
   have e2:((ys.map λ _=>true).all id)=true:=by rw [List.all_map];simp
   have k2:=k H' e;clear k hD';ac_rfl
theorem qA{zs:List (List Int)}{ys:List V}{H:Hp}(al:Al (qJ H) zs ys){i:Nat}{y:V}(h:ys[i]? = some y):∃ z,zs[i]? = some z/\qJ H z y:=by
 have hi:i < ys.length:=(L9.mp h).1;have hz:zs[i]? = some (zs[i]'(by rw [←al.1];exact hi)):=L8 _;exact⟨_,hz,al.2 i _ y hz h⟩
abbrev rW(cT:Addr)(n:Int)(H:Hp)(Q:VK)(E:XK):Prop:=(n<=4096->Q .non H)/\¬ 4096 < n
def uP(cT:Addr):Sp:=λ vs H Q E=>∃ (n:Int),vs=[.int n]/\(rW cT n H Q E)
theorem rR(cT:Addr)(n:Int)(H:Hp)(Q:VK)(E:XK):uP cT [.int n] H Q E=(rW cT n H Q E):=g9 (f:=λ (n:Int)=>[.int n]) (λ _ _ h=>by cases h;exact rfl) n
theorem Ai(cT:Addr){vs:List V}{H:Hp}{Q:VK}{E:XK}(h:uP cT vs H Q E):vs.length=1:=gb h λ _=>rfl
theorem fY(T:Tx K mg t):aW P w K mg base CX0 3 t.a_refuse_long t.d_refuse_long ["count"] (uP t.a_TooMany):=by
 refine T.F_refuse_long.ok gX (λ vs H Q E h=>Ai _ h) (λ c A o s H vs Q E hr h=>?_)
 ·obtain⟨n,rfl,k1,hn⟩:=h;refine⟨_,%[%[%[pF,%[0|0],(@cS _ _ (.int 4096) _ _ ∅ T.m_MOST_TOLD.choose_spec ⟨_,rfl⟩ ⋯),(aw _)|15],%[(@fJ _ _)|10],(@ay _)|17]|10],?_⟩;rw [show au ["count"] [.int n]=[some (.int n)] from rfl];have k1':=k1 %[0|8];clear k1;ac_rfl
theorem K7(x:Int):min 0 x=if x < 0 then x else 0:=by split<;>omega
theorem K8(x:Int):max 0 x=if 0 < x then x else 0:=by split<;>omega
structure aA(C:Addr)(H:Hp)(v:Addr)(room first:Int)(axs:List (Int × Int)):Prop where
 ob:∃ dx l,H v=some (.ins C dx (cR room first l))/\aB H l (axL axs)
theorem aA.ext{C:Addr}{H H':Hp}{v:Addr}{room first:Int}{axs:List (Int × Int)}(h:aA C H v room first axs)(e:Ext H H'):aA C H' v room first axs:=by
 obtain⟨dx,l,h1,h2⟩:=h.ob;exact⟨⟨dx,l,e.at h1,h2.ext e⟩⟩
theorem BZ{m:Str}(h:m∈([("sizes":Str), "paces", "count", "cell", "cell_at", "cells", "least", "greatest"]:List Str)):¬ m = "axes" /\ ¬ m = "first" /\ ¬ m = "room":=by
 revert m
 decide +kernel
theorem vn(room first:Int)(l:Addr){m:Str}(h:m∈([("sizes":Str), "paces", "count", "cell", "cell_at", "cells", "least", "greatest"]:List Str)):(cR room first l).lookup m=none:=za room first l (BZ h).1 (BZ h).2.1 (BZ h).2.2
theorem Cd{H:Hp}{axs:List (Int × Int)}{ys:List V}(al:Al (qJ H) (axL axs) ys){i:Nat}{y:V}(h:ys[i]? = some y):∃ a q,axs[i]? = some a/\y=.ref q/\H q=some (.tup [.int a.1,.int a.2]):=by
 obtain⟨z,hz,q,hq,hq2⟩:=qA al h;unfold axL at hz;rw [getElem?_map] at hz;obtain⟨a,ha,rfl⟩:=Option.map_eq_some_iff.mp hz;exact⟨a,q,ha,hq,hq2⟩
abbrev oQ(C:Addr)(v:Addr)(H:Hp)(Q:VK)(E:XK):Prop:=∃ (room first:Int) (axs:List (Int × Int)),aA C H v room first axs/\fF axs/\∀ H',Ext H H'->Q (.int (first+ba axs)) H'
def lR(C:Addr):Sp:=λ vs H Q E=>∃ (v:Addr),vs=[.ref v]/\(oQ C v H Q E)
theorem yo(C:Addr)(v:Addr)(H:Hp)(Q:VK)(E:XK):lR C [.ref v] H Q E=(oQ C v H Q E):=g9 (f:=λ (v:Addr)=>[.ref v]) (λ _ _ h=>by cases h;exact rfl) v
theorem xK(C:Addr){vs:List V}{H:Hp}{Q:VK}{E:XK}(h:lR C vs H Q E):vs.length=1:=gb h λ _=>rfl
theorem mZ(T:Tx K mg t):aW P w K mg base CX0 1 t.a_View_least t.d_View_least ["self"] (lR t.a_View):=by
 refine T.F_View_least.ok px (λ vs H Q E h=>xK _ h) (λ c A o s H vs Q E hr h=>?_)
 ·obtain⟨v,rfl,room,first,axs,vo,hax,k⟩:=h;obtain⟨dx,l,hv,ys,hl,al⟩:=vo.ob;have c1:=T.cl_View;have c2:=T.na_View_first;have c3:=T.na_View_axes
  have f1:=cW room first l
  have f2:=cO room first l
  refine⟨_,%[%[%[bB,%[%[0|0],rfl|23],%[sum,(gQ rfl),%[%[(["size", "pace", "self"]),(2),(aQ (aa dz) ["self"] rfl rfl nofun),rfl,%[%[%[0|0],rfl|23]|18],(λ C s₀ H₀ ex pn=>(%[(2),rfl,%[%[(0),_,(show List.Nodup (["size", "pace", "self"]:List Str) from by decide +kernel),rfl,(Or.inl rfl),%[0|7]|19],%[%[(1),_,(show List.Nodup (["size", "pace", "self"]:List Str) from by decide +kernel),rfl,(Or.inl rfl),%[0|7]|19],(@bw _),∅|20],∅|20],∅,∅|31].mono λ _ _ _ _ h=>dY h)),(λ C s₀ H₀ ex pn=>(@bF _)),(λ C s₀ H₀ ex pn=>%[min,(oy rfl),%[%[0|2],%[%[fW,%[fV,%[0|0],%[0|2]|11],%[1|0]|11]|1]|1]|6]),(by intros;rfl)|28]|1]|6]|11]|13]|10],?_⟩;rw [show au ["self"] [.ref v]=[some (.ref v)] from rfl];ac_rfl;have wk:=lO (K:=K) (R:=axP) (λ _ _ _ _ h e=>h.ext e) hl (kW al);refine bQ axs (λ _=>true) (λ a=>.int (min 0 ((a.1 - 1) * a.2))) axP wk.1 wk.2 (aC (by have:=hax.1;omega)) ?_ ?_
  ·intro D a x H' N1 N0 ha hD e ⟨q,hx,hq⟩ k1 _;subst hx;have hb:=hax.2 a ha;have k1':=k1 rfl H' (Ext.refl _);have hcm:uf (a.1 - 1) a.2:=.inl ⟨by omega,by omega⟩;rw [K7] at k1';clear k1 k;simp! only [↓ji,↓aK]
  ·intro D H' hD e hD';have hD2:H' D=some (.lst ((axs.map λ a=>min 0 ((a.1 - 1) * a.2)).map V.int)):=by rw [hD',ud,NG];rfl
   have k2:Q (.int (first+(axs.map λ a=>min 0 ((a.1 - 1) * a.2)).sum)) H':=k H' e;clear k hD';ac_rfl
abbrev iH(C:Addr)(v:Addr)(H:Hp)(Q:VK)(E:XK):Prop:=∃ (room first:Int) (axs:List (Int × Int)),aA C H v room first axs/\fF axs/\∀ H',Ext H H'->Q (.int (first+bg axs)) H'
def ic(C:Addr):Sp:=λ vs H Q E=>∃ (v:Addr),vs=[.ref v]/\(iH C v H Q E)
theorem ph(C:Addr)(v:Addr)(H:Hp)(Q:VK)(E:XK):ic C [.ref v] H Q E=(iH C v H Q E):=g9 (f:=λ (v:Addr)=>[.ref v]) (λ _ _ h=>by cases h;exact rfl) v
theorem o7(C:Addr){vs:List V}{H:Hp}{Q:VK}{E:XK}(h:ic C vs H Q E):vs.length=1:=gb h λ _=>rfl
theorem iM(T:Tx K mg t):aW P w K mg base CX0 1 t.a_View_greatest t.d_View_greatest ["self"] (ic t.a_View):=by
 refine T.F_View_greatest.ok kh (λ vs H Q E h=>o7 _ h) (λ c A o s H vs Q E hr h=>?_)
 ·obtain⟨v,rfl,room,first,axs,vo,hax,k⟩:=h;obtain⟨dx,l,hv,ys,hl,al⟩:=vo.ob;have c1:=T.cl_View;have c2:=T.na_View_first;have c3:=T.na_View_axes
  have f1:=cW room first l
  have f2:=cO room first l
  refine⟨_,%[%[%[bB,%[%[0|0],rfl|23],%[sum,(gQ rfl),%[%[(["size", "pace", "self"]),(2),(aQ (aa bW) ["self"] rfl rfl nofun),rfl,%[%[%[0|0],rfl|23]|18],(λ C s₀ H₀ ex pn=>(%[(2),rfl,%[%[(0),_,(show List.Nodup (["size", "pace", "self"]:List Str) from by decide +kernel),rfl,(Or.inl rfl),%[0|7]|19],%[%[(1),_,(show List.Nodup (["size", "pace", "self"]:List Str) from by decide +kernel),rfl,(Or.inl rfl),%[0|7]|19],(@bw _),∅|20],∅|20],∅,∅|31].mono λ _ _ _ _ h=>dY h)),(λ C s₀ H₀ ex pn=>(@bF _)),(λ C s₀ H₀ ex pn=>%[max,(oz rfl),%[%[0|2],%[%[fW,%[fV,%[0|0],%[0|2]|11],%[1|0]|11]|1]|1]|6]),(by intros;rfl)|28]|1]|6]|11]|13]|10],?_⟩;rw [show au ["self"] [.ref v]=[some (.ref v)] from rfl];ac_rfl;have wk:=lO (K:=K) (R:=axP) (λ _ _ _ _ h e=>h.ext e) hl (kW al);refine bQ axs (λ _=>true) (λ a=>.int (max 0 ((a.1 - 1) * a.2))) axP wk.1 wk.2 (aC (by have:=hax.1;omega)) ?_ ?_
  ·intro D a x H' N1 N0 ha hD e ⟨q,hx,hq⟩ k1 _;subst hx;have hb:=hax.2 a ha;have k1':=k1 rfl H' (Ext.refl _);have hcm:uf (a.1 - 1) a.2:=.inl ⟨by omega,by omega⟩;rw [K8] at k1';clear k1 k;simp! only [↓ji,↓aK]
  ·intro D H' hD e hD';have hD2:H' D=some (.lst ((axs.map λ a=>max 0 ((a.1 - 1) * a.2)).map V.int)):=by rw [hD',ud,NG];rfl
   have k2:Q (.int (first+(axs.map λ a=>max 0 ((a.1 - 1) * a.2)).sum)) H':=k H' e;clear k hD';ac_rfl
def Lb(H:Hp)(Q:VK)(f:Int × Int->Int)(axs:List (Int × Int)):Prop:=∀ (r:Addr) (H':Hp),H r=none->Ext H H'->H' r=some (.lst ((axs.map f).map V.int))->Q (.ref r) H'
abbrev lC(C:Addr)(v:Addr)(H:Hp)(Q:VK)(E:XK):Prop:=∃ (room first:Int) (axs:List (Int × Int)),aA C H v room first axs/\axs.length<=8/\Lb H Q (λ a=>a.1) axs
def mm(C:Addr):Sp:=λ vs H Q E=>∃ (v:Addr),vs=[.ref v]/\(lC C v H Q E)
theorem tR(C:Addr)(v:Addr)(H:Hp)(Q:VK)(E:XK):mm C [.ref v] H Q E=(lC C v H Q E):=g9 (f:=λ (v:Addr)=>[.ref v]) (λ _ _ h=>by cases h;exact rfl) v
theorem tw(C:Addr){vs:List V}{H:Hp}{Q:VK}{E:XK}(h:mm C vs H Q E):vs.length=1:=gb h λ _=>rfl
theorem mY(T:Tx K mg t):aW P w K mg base CX0 1 t.a_View_sizes t.d_View_sizes ["self"] (mm t.a_View):=by
 refine T.F_View_sizes.ok pw (λ vs H Q E h=>tw _ h) (λ c A o s H vs Q E hr h=>?_)
 ·obtain⟨v,rfl,room,first,axs,vo,hax,k⟩:=h;obtain⟨dx,l,hv,ys,hl,al⟩:=vo.ob;have c1:=T.cl_View;have c3:=T.na_View_axes
  have f2:=cO room first l
  refine⟨_,%[%[%[(["size", "pace", "self"]),(2),(aQ (aa dq) ["self"] rfl rfl nofun),rfl,%[%[%[0|0],rfl|23]|18],(λ C s₀ H₀ ex pn=>(%[(2),rfl,%[%[(0),_,(show List.Nodup (["size", "pace", "self"]:List Str) from by decide +kernel),rfl,(Or.inl rfl),%[0|7]|19],%[%[(1),_,(show List.Nodup (["size", "pace", "self"]:List Str) from by decide +kernel),rfl,(Or.inl rfl),%[0|7]|19],(@bw _),∅|20],∅|20],∅,∅|31].mono λ _ _ _ _ h=>dY h)),(λ C s₀ H₀ ex pn=>(@bF _)),(λ C s₀ H₀ ex pn=>%[0|0]),(by intros;rfl)|28]|13]|10],?_⟩;rw [show au ["self"] [.ref v]=[some (.ref v)] from rfl];ac_rfl;have wk:=lO (K:=K) (R:=axP) (λ _ _ _ _ h e=>h.ext e) hl (kW al);refine bQ axs (λ _=>true) (λ a=>.int a.1) axP wk.1 wk.2 (aC %[0|8]) ?_ ?_
  ·intro D a x H' N1 N0 ha hD e ⟨q,hx,hq⟩ k1 _;subst hx;have k1':=k1 rfl H' (Ext.refl _);clear k1 k;simp! only [↓ji,↓aK]
  ·intro D H' hD e hD';exact k D H' hD e (by rw [hD',ud,NG];rfl)
abbrev uc(C:Addr)(v:Addr)(H:Hp)(Q:VK)(E:XK):Prop:=∃ (room first:Int) (axs:List (Int × Int)),aA C H v room first axs/\axs.length<=8/\Lb H Q (λ a=>a.2) axs
def IQ(C:Addr):Sp:=λ vs H Q E=>∃ (v:Addr),vs=[.ref v]/\(uc C v H Q E)
abbrev lD(C:Addr)(v:Addr)(H:Hp)(Q:VK)(E:XK):Prop:=∃ (room first:Int) (axs:List (Int × Int)),aA C H v room first axs/\fF axs/\∀ H',Ext H H'->Q (.int (ak (axs.map λ a=>a.1))) H'
def mn(C:Addr):Sp:=λ vs H Q E=>∃ (v:Addr),vs=[.ref v]/\(lD C v H Q E)
theorem eh(C:Addr)(v:Addr)(H:Hp)(Q:VK)(E:XK):mn C [.ref v] H Q E=(lD C v H Q E):=g9 (f:=λ (v:Addr)=>[.ref v]) (λ _ _ h=>by cases h;exact rfl) v
theorem tD(C:Addr){vs:List V}{H:Hp}{Q:VK}{E:XK}(h:mn C vs H Q E):vs.length=1:=gb h λ _=>rfl
theorem bV(T:Tx K mg t):aW P w K mg base CX0 2 t.a_View_count t.d_View_count ["self"] (mn t.a_View):=by
 have G_View_sizes:=%[mY|41];have G_count_of:=%[qe|41];refine T.F_View_count.ok pz (λ vs H Q E h=>tD _ h) (λ c A o s H vs Q E hr h=>?_)
 ·obtain⟨v,rfl,room,first,axs,vo,hax,k⟩:=h;obtain⟨dx,l,hv,_⟩:=vo.ob
  have f3:=vn room first l (m := "sizes") nofun
  refine⟨_,%[%[%[count_of,%[%[%[0|0],T.cl_View,T.mt_View_sizes,G_View_sizes,(hr.mono ⋯),T.b_View_sizes,.nil,bu,∅|36]|1]|3]|13]|10],?_⟩;rw [show au ["self"] [.ref v]=[some (.ref v)] from rfl];ac_rfl;rw [tR];refine⟨room,first,axs,vo,hax.1,λ r H' hr' e h'=>?_⟩;have k':=k H' e;have hsz:=hax.sizes;clear k;simp! only [↓yt,↓Kf,↓AW]
def pK(C:Addr):Sp:=λ vs H Q E=>∃ (x:Addr) (room:Int) (first:Int) (l:Addr),vs=[.ref x,.int room,.int first,.ref l]/\(∃ (dx:Addr) (axs:List (Int × Int)),H x=some (.ins C dx [])/\aB H l (axL axs)/\ja room first axs/\∀ (H':Hp) (D:Addr),(∀ H0,Ext H0 H->H0 x=none->Ext H0 H')->H D=none->H' x=some (.ins C dx (cR room first D))->aB H' D (axL (axs.map aU))->Q .non H')
theorem bU(C:Addr)(x:Addr)(room:Int)(first:Int)(l:Addr)(H:Hp)(Q:VK)(E:XK):pK C [.ref x,.int room,.int first,.ref l] H Q E=(∃ (dx:Addr) (axs:List (Int × Int)),H x=some (.ins C dx [])/\aB H l (axL axs)/\ja room first axs/\∀ (H':Hp) (D:Addr),(∀ H0,Ext H0 H->H0 x=none->Ext H0 H')->H D=none->H' x=some (.ins C dx (cR room first D))->aB H' D (axL (axs.map aU))->Q .non H'):=LB (f:=λ (x:Addr) (room:Int) (first:Int) (l:Addr)=>[.ref x,.int room,.int first,.ref l]) (λ _ _ _ _ _ _ _ _ h=>by cases h;exact⟨rfl,rfl,rfl,rfl⟩) x room first l
theorem xF(C:Addr){vs:List V}{H:Hp}{Q:VK}{E:XK}(h:pK C vs H Q E):vs.length=4:=LC h λ _ _ _ _=>rfl
theorem cG(T:Tx K mg t):aW P w K mg base CX0 6 t.a_View___init__ t.d_View___init__ ["self", "room", "first", "axes"] (pK t.a_View):=by
 have G_is_within:=%[iE|41];have G_is_whole:=%[gy|41];have G_are_axes:=%[qg|41];have G_kept_axis:=%[oY|41];have G_View_least:=%[mZ|41];have G_View_greatest:=%[iM|41];refine T.F_View___init__.ok ki (λ vs H Q E h=>xF _ h) (λ c A o s H vs Q E hr h=>?_)
 ·obtain⟨x,room,first,l,rfl,dx,axs,hx,tl,vok,k⟩:=h;have c1:=T.cl_View;have c2:=T.na_View_first;have c3:=T.na_View_axes;have c4:=T.na_View_room;refine⟨_,%[%[(PW.pt %[%[%[%[is_within,%[%[1|0],%[%[0|2],%[(@cS _ _ (.int 1000000000000000000) _ _ ∅ T.m_MOST_ROOM.choose_spec ⟨_,rfl⟩ ⋯)|1]|1]|1]|3],(by intros;rfl)|26]|29],%[%[%[%[is_whole,%[%[2|0]|1]|3],(by intros;rfl)|26]|29],%[%[%[%[are_axes,%[%[3|0]|1]|3],(by intros;rfl)|26]|29]|32]|27]|27]),%[(@fJ _ _)|10],(@ay _)|17],%[%[%[0|0],%[1|0],rfl|34],%[%[%[0|0],%[2|0],rfl|34],%[%[%[0|0],%[(["axis", "self", "room", "first", "axes"]),(1),(aQ (aa bX) ["self", "room", "first", "axes"] rfl rfl nofun),rfl,%[%[3|0]|18],(λ C s₀ H₀ ex pn=>%[(0),_,(show List.Nodup (["axis", "self", "room", "first", "axes"]:List Str) from by decide +kernel),rfl,(Or.inl rfl),%[0|7]|19]),(λ C s₀ H₀ ex pn=>(@bF _)),(λ C s₀ H₀ ex pn=>%[kept_axis,%[%[0|0]|1]|3]),(by intros;rfl)|28],rfl|34],%[%[(PW.pt %[%[BY,%[%[0|0],T.cl_View,T.mt_View_least,G_View_least,(hr.mono ⋯),T.b_View_least,.nil,bu,∅|36],%[0|2],(aw _)|15],%[%[Fi,%[%[0|0],T.cl_View,T.mt_View_greatest,G_View_greatest,(hr.mono ⋯),T.b_View_greatest,.nil,bu,∅|36],%[1|0],(aw _)|15]|32]|27]),%[(@fJ _ _)|10],(@ay _)|17]|10]|9]|9]|9]|9],?_⟩;rw [show au ["self", "room", "first", "axes"] [.ref x,.int room,.int first,.ref l]=[some (.ref x),some (.int room),some (.int first),some (.ref l)] from rfl];have r1:=vok.r1;have r2:=vok.r2;simp! only [↓lu,↓cV];rw [AN];refine⟨axs,tl,vok.ax,λ H1 e1=>?_⟩;have hx1:=e1.at hx;have tl1:=tl.ext e1;clear hx tl;ac_rfl;refine⟨(show (1:Nat) < 1000 by decide),?_⟩;obtain⟨ys,hl1,al1⟩:=tl1;have hlx:l ≠ x:=λ z=>by rw [z,hx1] at hl1;cases hl1
  have hx2:(upd H1 x (HO.ins t.a_View dx (fD "first" (V.int first) (fD "room" (V.int room) [])))) x=some (HO.ins t.a_View dx (fD "first" (V.int first) (fD "room" (V.int room) []))):=ag
  have hl2:(upd H1 x (HO.ins t.a_View dx (fD "first" (V.int first) (fD "room" (V.int room) [])))) l=some (.lst ys):=by rw [ae hlx];exact hl1
  have al2:Al (λ a y=>axP a y (upd H1 x (HO.ins t.a_View dx (fD "first" (V.int first) (fD "room" (V.int room) []))))) axs ys:=(kW al1).imp λ a y ⟨q,hy,hq⟩=>⟨q,hy,by rw [ae (λ z=>by rw [z,hx1] at hq;cases hq)];exact hq⟩;have b2:∀ H0,Ext H0 H->H0 x=none->Ext H0 (upd H1 x (HO.ins t.a_View dx (fD "first" (V.int first) (fD "room" (V.int room) [])))):=λ H0 q0 q1=>(q0.trans e1).put q1
  have b3:∀ b,b ≠ x->(upd H1 x (HO.ins t.a_View dx (fD "first" (V.int first) (fD "room" (V.int room) [])))) b=none->H b=none:=λ b hb q=>by rw [ae hb] at q;exact e1.free q
  generalize upd H1 x (HO.ins t.a_View dx (fD "first" (V.int first) (fD "room" (V.int room) [])))=H2 at hx2 hl2 al2 b2 b3;clear hl1 al1 hx1;ac_rfl;have wk:=lO (K:=K) (R:=axP) (λ _ _ _ _ h e=>h.ext e) hl2 al2;refine rN axs (λ _=>true) axP (λ D a y H'=>∃ q,y=.ref q/\q ≠ D/\H' q=some (.tup [.int (aU a).1,.int (aU a).2])) wk.1 wk.2 (λ D _ y H1 H2 ⟨q,h1,h2,h3⟩ e=>⟨q,h1,h2,e.at h3⟩) (λ D _ y H1 o ⟨q,h1,h2,h3⟩=>⟨q,h1,h2,by rw [ae h2];exact h3⟩) (aC (by have:=vok.ax.1;omega)) ?_ ?_
  ·intro D a y H' N1 N0 ha hD e ⟨ys0,hys0⟩ ⟨q,hy,hq⟩ k1 _;subst hy;have k1':=k1 rfl;clear k1 k;simp! only [↓aF,↓aK];rw [AL];exact⟨a,hq,λ r H'' hr' e' h'=>k1' _ H'' e' ⟨r,rfl,(λ z=>by rw [z,hys0] at hr';cases hr'),h'⟩⟩
  ·intro D zs H3 hD e3 hD3 al3;rw [ud] at al3;have hx3:=e3.at hx2;have hDx:D ≠ x:=λ z=>by rw [z,hx2] at hD;cases hD
   clear wk;ac_rfl;refine⟨(show (2:Nat) < 1000 by decide),?_⟩
   have tt:aB (upd H3 x (HO.ins t.a_View dx (cR room first D))) D (axL (axs.map aU)):=by
    refine⟨zs,by rw [ae hDx];exact hD3,?_,λ i z y hz hy=>?_⟩
    ·rw [al3.1];unfold axL;rw [length_map,length_map]
    ·unfold axL at hz;rw [map_map,getElem?_map] at hz;obtain⟨a,ha,rfl⟩:=Option.map_eq_some_iff.mp hz;obtain⟨q,hq1,_,hq3⟩:=al3.2 i a y ha hy;exact⟨q,hq1,by rw [ae (λ z=>by rw [z,hx3] at hq3;cases hq3)];exact hq3⟩
   have b4:∀ H0,Ext H0 H->H0 x=none->Ext H0 (upd H3 x (HO.ins t.a_View dx (cR room first D))):=λ H0 q0 q1=>((b2 H0 q0 q1).trans e3).put q1;have hx4:(upd H3 x (HO.ins t.a_View dx (cR room first D))) x=some (HO.ins t.a_View dx (cR room first D)):=ag
   have f1:=vn room first D (m := "least") nofun
   have f2:=vn room first D (m := "greatest") nofun
   refine⟨f1,?_⟩
   show lR t.a_View [V.ref x] (upd H3 x (HO.ins t.a_View dx (cR room first D))) _ _
   generalize upd H3 x (HO.ins t.a_View dx (cR room first D))=H4 at tt b4 hx4
   have vo:aA t.a_View H4 x room first (axs.map aU):=⟨dx,D,hx4,tt⟩
   rw [yo];refine⟨room,first,axs.map aU,vo,vok.ax.kept,λ H5 e5=>?_⟩
   have hlo:¬ first+ba (axs.map aU) < 0:=by have:=vok.lo;omega
   have hx5:=e5.at hx4;ac_rfl;rw [ph];refine⟨room,first,axs.map aU,vo.ext e5,vok.ax.kept,λ H6 e6=>?_⟩
   have hhi:¬ room<=first+bg (axs.map aU):=by have:=vok.hi;omega
   have k':=k H6 D (λ H0 q0 q1=>((b4 H0 q0 q1).trans e5).trans e6) (b3 D hDx hD) (e6.at hx5) ((tt.ext e5).ext e6);clear k;ac_rfl
theorem kX(cs:List Int)(a:Int × Int)(i:Nat)(c:Int)(h:cs[i]? = some c):bN (cs.take (i+1)) a=bN (cs.take i) a++(List.range a.1.toNat).map λ (n:Nat)=>c+(n:Int) * a.2:=by
 unfold bN;rw [take_add_one,h,List.flatMap_append];simp
abbrev jQ  (p:Addr) (z:Int) (pc:Int) (H:Hp) (Q:VK) (E:XK):Prop:=∃ cs:List Int,H p=some (.lst (cs.map V.int))/\1<=z/\cs.length * z.toNat<=4096/\z<=1000000000/\∀ (r:Addr) (H':Hp),H r=none->Ext H H'->H' r=some (.lst ((bN cs (z,pc)).map V.int))->Q (.ref r) H'
def jk  : Sp:=λ vs H Q E=>∃ (p:Addr) (z:Int) (pc:Int),vs=[.ref p,.int z,.int pc]/\(jQ  p z pc H Q E)
theorem qC  (p:Addr) (z:Int) (pc:Int) (H:Hp) (Q:VK) (E:XK):jk  [.ref p,.int z,.int pc] H Q E=(jQ  p z pc H Q E):=yD (f:=λ (p:Addr) (z:Int) (pc:Int)=>[.ref p,.int z,.int pc]) (λ _ _ _ _ _ _ h=>by cases h;exact⟨rfl,rfl,rfl⟩) p z pc
theorem qr  {vs:List V}{H:Hp}{Q:VK}{E:XK}(h:jk  vs H Q E):vs.length=3:=yE h λ _ _ _=>rfl
theorem sH(T:Tx K mg t):aW P w K mg base CX0 1 t.a_widened t.d_widened ["cells", "size", "pace"] jk:=by
 refine T.F_widened.ok jA (λ vs H Q E h=>qr h) (λ c A o s H vs Q E hr h=>?_)
 ·obtain⟨p,z,pc,rfl,cs,hp,hz,hln,hz2,k⟩:=h;refine⟨_,%[%[3,jA,%[(@aH _)|12]|4],%[%[Mt,rfl,%[%[0|0]|18],%[(4),_,jA.nd,rfl,(Or.inr rfl),%[0|7]|19],%[%[%[Mo,Nv,Nu,fg,%[3|0],%[%[(["number", "cells", "size", "pace", "found", "cell"]),(1),(aQ (aa gM) ["cells", "size", "pace", "found", "cell"] rfl rfl nofun),rfl,%[∅,T.z_range,%[%[1|0]|1],∅|33],(λ C s₀ H₀ ex pn=>%[(0),_,(show List.Nodup (["number", "cells", "size", "pace", "found", "cell"]:List Str) from by decide +kernel),rfl,(Or.inl rfl),%[0|7]|19]),(λ C s₀ H₀ ex pn=>(@bF _)),(λ C s₀ H₀ ex pn=>%[bB,%[5|0],%[fW,%[0|0],%[3|0]|11]|11]),(by intros;rfl)|28]|1],∅,∅,∅,∅,∅|30],∅|16]|10],(by intros;rfl)|21],%[%[%[3|0]|13]|10]|9]|9],?_⟩;rw [show au ["cells", "size", "pace", "found", "cell"] [.ref p,.int z,.int pc]=[some (.ref p),some (.int z),some (.int pc),none,none] from rfl];ac_rfl;intro r H1 hr1 e1 h1;have hp1:=e1.at hp;ac_rfl;refine aZ (xs:=cs.map V.int) (λ i σ H'=>∃ v4:Option V,σ=[some (.ref p),some (.int z),some (.int pc),some (.ref r),v4]/\Ext H H'/\H' r=some (.lst ((bN (cs.take i) (z,pc)).map V.int))) ⟨none,rfl,e1,h1⟩ (λ i σ H' _ ⟨_,_,e,_⟩=>e.at hp) ?_ ?_
  ·rintro i x _ H2 hi ⟨v4,rfl,e2,h2⟩;rw [Mq] at hi;obtain⟨c,hc,rfl⟩:=Mg.mp hi;have hil:i < cs.length:=(L9.mp hc).1
   have hzn:z.toNat<=4096:=by
    have:=Of z.toNat (show 1<=cs.length by omega);omega
   have hwl:(bN (cs.take i) (z,pc)).length+z.toNat<=4096:=by
    rw [jj,OF,show ((z,pc):Int × Int).1=z from rfl];have:(min i cs.length+1) * z.toNat<=cs.length * z.toNat:=Of _ %[0|8];rw [Nat.add_mul,Nat.one_mul] at this;omega
   simp! only [↓aD];refine⟨by omega,by omega,?_⟩;refine bQ (List.range z.toNat) (λ _=>true) (λ j=>.int (c+(j:Int) * pc)) (λ j x H'=>x=.int (0+(j:Nat))) iz.1 iz.2 (aC (by rw [MY];omega)) ?_ ?_
   ·intro D j x H' N1 N0 hj hD e hx k1 _;subst hx;have hj':=Ng.mp hj;have k1':=k1 rfl H' (Ext.refl _);have hcm:uf (j:Int) pc:=.inl %[0|8];have e0:(0:Int)+(j:Int)=(j:Int):=Int.zero_add _;clear k1 k hj;simp! only [↓aF,↓aK]
   ·intro D H3 hD e3 hD3;have hD3':H3 D=some (.lst (((List.range z.toNat).map λ (j:Nat)=>c+(j:Int) * pc).map V.int)):=by rw [hD3,ud,NG];rfl
    have h2_3:=e3.at h2;have hle:(bN (cs.take i) (z,pc)).length+(List.range z.toNat).length<=sizeLine:=aC (by rw [MY];omega);clear hD3 hi;ac_rfl;refine⟨_,rfl,(e2.trans e3).put hr1,?_⟩;rw [kX cs (z,pc) i c hc,Nc]
  ·rintro _ H2 ⟨v4,rfl,e2,h2⟩;ac_rfl;rw [Md,MX] at h2;exact k r H2 hr1 e2 h2
abbrev oX(C cT:Addr)(v:Addr)(H:Hp)(Q:VK)(E:XK):Prop:=∃ (room first:Int) (axs:List (Int × Int)),aA C H v room first axs/\fF axs/\(ak (axs.map λ a=>a.1)<=4096->∀ (r:Addr) (H':Hp),H r=none->Ext H H'->H' r=some (.lst ((ai first axs).map V.int))->Q (.ref r) H')/\¬ 4096 < ak (axs.map λ a=>a.1)
def pW(C cT:Addr):Sp:=λ vs H Q E=>∃ (v:Addr),vs=[.ref v]/\(oX C cT v H Q E)
theorem yu(C cT:Addr)(v:Addr)(H:Hp)(Q:VK)(E:XK):pW C cT [.ref v] H Q E=(oX C cT v H Q E):=g9 (f:=λ (v:Addr)=>[.ref v]) (λ _ _ h=>by cases h;exact rfl) v
theorem xT(C cT:Addr){vs:List V}{H:Hp}{Q:VK}{E:XK}(h:pW C cT vs H Q E):vs.length=1:=gb h λ _=>rfl
theorem m7(T:Tx K mg t):aW P w K mg base CX0 4 t.a_View_cells t.d_View_cells ["self"] (pW t.a_View t.a_TooMany):=by
 have G_View_count:=%[bV|41];have G_refuse_long:=%[fY|41];have G_widened:=%[sH|41];refine T.F_View_cells.ok cC (λ vs H Q E h=>xT _ _ h) (λ c A o s H vs Q E hr h=>?_)
 ·obtain⟨v,rfl,room,first,axs,vo,hax,kQ,kE⟩:=h;obtain⟨dx,l,hv,ys,hl,al⟩:=vo.ob;have c1:=T.cl_View;have c2:=T.na_View_first;have c3:=T.na_View_axes
  have f1:=cW room first l
  have f2:=cO room first l
  have f3:=vn room first l (m := "count") nofun
  refine⟨_,%[%[%[refuse_long,%[%[%[0|0],T.cl_View,T.mt_View_count,G_View_count,(hr.mono ⋯),T.b_View_count,.nil,bu,∅|36]|1]|3],∅|16],%[%[1,cC,%[%[%[%[0|0],rfl|23]|1]|12]|4],%[%[Mt,rfl,%[%[%[0|0],rfl|23]|18],(%[(2),rfl,%[%[2,cC|5],%[%[3,cC|5],(@bw _),∅|20],∅|20],∅,∅|31].mono λ _ _ _ _ h=>dY h),%[%[1,cC,%[widened,%[%[1|0],%[%[2|0],%[%[3|0]|1]|1]|1]|3]|4]|10],(by intros;rfl)|21],%[%[%[1|0]|13]|10]|9]|9]|9],?_⟩;rw [show au ["self", "found", "size", "pace"] [.ref v]=[some (.ref v),none,none,none] from rfl];clear G_View_count G_refuse_long G_widened;ac_rfl;rw [eh];refine⟨room,first,axs,vo,hax,λ H1 e1=>?_⟩;have hv1:=e1.at hv;have hl1:=e1.at hl;ac_rfl;rw [rR];refine⟨λ hc=>?_,kE⟩;have kQ':=kQ hc;clear kQ kE;ac_rfl;intro r H2 hr2 e2 h2;have hv2:=e2.at hv1;have hl2:=e2.at hl1;ac_rfl;have hpos:∀ a∈axs,(1:Int)<=a.1:=λ a ha=>(hax.2 a ha).1;refine aZ (xs:=ys) (λ i σ H'=>∃ (r:Addr) (v2 v3:Option V),σ=[some (.ref v),some (.ref r),v2,v3]/\Ext H H'/\H r=none/\H' r=some (.lst ((ai first (axs.take i)).map V.int))) ⟨r,none,none,rfl,e1.trans e2,e1.free hr2,h2⟩ (λ i σ H' _ ⟨_,_,_,_,e,_,_⟩=>e.at hl) ?_ ?_
  ·rintro i y _ H3 hi ⟨r3,v2,v3,rfl,e3,hr3,h3⟩;obtain⟨a,q,ha,rfl,hq⟩:=Cd al hi;have hq3:=e3.at hq;have hm:=hax.2 a (Mu ha);simp! only [↓aD];rw [qC];refine⟨_,h3,hm.1,?_,hm.2,λ r4 H4 hr4 e4 h4=>?_⟩
   ·have hl4:=bx first (axs.take i) λ b hb=>hpos b (Og hb)
    have hp:=gR (axs.map λ a=>a.1) (λ n hn=>by obtain⟨b,hb,rfl⟩:=MM.mp hn;exact hpos b hb) (i+1);rw [fN _ i a.1 (by rw [Mq,ha];rfl),←List.map_take,←hl4] at hp;have hza:((a.1.toNat:Nat):Int)=a.1:=NX %[0|8]
    have:(((ai first (axs.take i)).length * a.1.toNat:Nat):Int)<=4096:=by rw [O5,hza];omega
    omega
   ·ac_rfl;refine⟨r4,_,_,rfl,e3.trans e4,e3.free hr4,?_⟩;rw [h4,M7,ha]
    show _=some (HO.lst (List.map V.int (ai first (axs.take i++[a]))))
    rw [jL]
  ·rintro _ H3 ⟨r3,v2,v3,rfl,e3,hr3,h3⟩;have hyl:ys.length=axs.length:=by rw [al.1];unfold axL;rw [length_map]
   rw [hyl,MX] at h3;ac_rfl;exact kQ' r3 H3 hr3 e3 h3
def BN(t:Adr):Nat->Addr
 | 0=>t.a_Statement
 | 1=>t.a_Fill
 | 2=>t.a_Copy
 | 3=>t.a_Swap
 | _=>t.a_Raise
def EW:Nat->Addr->Addr->V->List (Str × V)
 | 0,_,_,_=>[]
 | 1,u,_,x=>[("to",.ref u),("value",x)]
 | 2,u,v,_=>[("to",.ref u),("source",.ref v)]
 | 3,u,v,_=>[("one",.ref u),("other",.ref v)]
 | _,u,v,_=>[("to",.ref u),("source",.ref v)]
def wrs:Nat->Addr->Addr->List Addr
 | 0,_,_=>[]
 | 3,u,v=>[u,v]
 | _,u,_=>[u]
def rds:Nat->Addr->Addr->List Addr
 | 0,_,_=>[]
 | 1,_,_=>[]
 | 2,_,v=>[v]
 | _,u,v=>[u,v]
def um(t:Adr)(H:Hp)(s:Addr)(w:Nat)(u v:Addr):Prop:=w < 5/\∃ dx x,H s=some (.ins (BN t w) dx (EW w u v x))
theorem um.ext{t:Adr}{H H':Hp}{s:Addr}{w:Nat}{u v:Addr}(h:um t H s w u v)(e:Ext H H'):um t H' s w u v:=by
 obtain⟨h1,dx,x,h2⟩:=h;exact⟨h1,dx,x,e.at h2⟩
abbrev Il(t:Adr)(i:Nat)(s:Addr)(H:Hp)(Q:VK)(E:XK):Prop:=∃ (u v dx:Addr) (x:V),H s=some (.ins (BN t i) dx (EW i u v x))/\∀ (r:Addr) (H':Hp),Ext H H'->H' r=some (.lst ((wrs i u v).map V.ref))->Q (.ref r) H'
def AQ(t:Adr)(i:Nat):Sp:=λ vs H Q E=>∃ (s:Addr),vs=[.ref s]/\(Il t i s H Q E)
theorem nL(t:Adr)(i:Nat){vs:List V}{H:Hp}{Q:VK}{E:XK}(h:AQ t i vs H Q E):vs.length=1:=gb h λ _=>rfl
abbrev Io(t:Adr)(i:Nat)(s:Addr)(H:Hp)(Q:VK)(E:XK):Prop:=∃ (u v dx:Addr) (x:V),H s=some (.ins (BN t i) dx (EW i u v x))/\∀ (r:Addr) (H':Hp),Ext H H'->H' r=some (.lst ((rds i u v).map V.ref))->Q (.ref r) H'
def AR(t:Adr)(i:Nat):Sp:=λ vs H Q E=>∃ (s:Addr),vs=[.ref s]/\(Io t i s H Q E)
theorem nM(t:Adr)(i:Nat){vs:List V}{H:Hp}{Q:VK}{E:XK}(h:AR t i vs H Q E):vs.length=1:=gb h λ _=>rfl
theorem gC(T:Tx K mg t):aW P w K mg base CX0 1 t.a_Statement_writes t.d_Statement_writes ["self"] (AQ t 0):=by
 refine T.F_Statement_writes.ok g8 (λ vs H Q E h=>nL _ _ h) (λ cdv A outer s0 H vs Q E hr h=>?_)
 ·obtain⟨s,rfl,u,v,dx,x,hs,k⟩:=h;have hs':H s=some (.ins t.a_Statement dx []):=hs;clear hs;have c9:=T.cl_Statement;refine⟨_,%[%[%[(@aH _)|12]|13]|10],?_⟩;rw [show au ["self"] [.ref s]=[some (.ref s)] from rfl];exists k;ac_rfl;intro r H1 _ e1 h1;exact k () r H1 e1 h1
theorem gZ(T:Tx K mg t):aW P w K mg base CX0 1 t.a_Statement_reads t.d_Statement_reads ["self"] (AR t 0):=by
 refine T.F_Statement_reads.ok eo (λ vs H Q E h=>nM _ _ h) (λ cdv A outer s0 H vs Q E hr h=>?_)
 ·obtain⟨s,rfl,u,v,dx,x,hs,k⟩:=h;have hs':H s=some (.ins t.a_Statement dx []):=hs;clear hs;have c9:=T.cl_Statement;refine⟨_,%[%[%[(@aH _)|12]|13]|10],?_⟩;rw [show au ["self"] [.ref s]=[some (.ref s)] from rfl];exists k;ac_rfl;intro r H1 _ e1 h1;exact k () r H1 e1 h1
theorem kH(T:Tx K mg t):aW P w K mg base CX0 1 t.a_Fill_writes t.d_Fill_writes ["self"] (AQ t 1):=by
 refine T.F_Fill_writes.ok nv (λ vs H Q E h=>nL _ _ h) (λ cdv A outer s0 H vs Q E hr h=>?_)
 ·obtain⟨s,rfl,u,v,dx,x,hs,k⟩:=h;have hs':H s=some (.ins t.a_Fill dx [("to",V.ref u),("value",x)]):=hs;clear hs;have c0:=T.na_Fill_to;have l0:([("to",V.ref u),("value",x)]:List (Str × V)).lookup (Str.ofString "to")=some (V.ref u):=by rfl
  have c9:=T.cl_Fill;refine⟨_,%[%[%[%[%[%[0|0],rfl|23]|1]|12]|13]|10],?_⟩;rw [show au ["self"] [.ref s]=[some (.ref s)] from rfl];exists k;ac_rfl;intro r H1 _ e1 h1;exact k () r H1 e1 h1
theorem kI(T:Tx K mg t):aW P w K mg base CX0 1 t.a_Copy_writes t.d_Copy_writes ["self"] (AQ t 2):=by
 refine T.F_Copy_writes.ok ny (λ vs H Q E h=>nL _ _ h) (λ cdv A outer s0 H vs Q E hr h=>?_)
 ·obtain⟨s,rfl,u,v,dx,x,hs,k⟩:=h;have hs':H s=some (.ins t.a_Copy dx [("to",V.ref u),("source",V.ref v)]):=hs;clear hs;have c0:=T.na_Copy_to;have l0:([("to",V.ref u),("source",V.ref v)]:List (Str × V)).lookup (Str.ofString "to")=some (V.ref u):=by rfl
  have c9:=T.cl_Copy;refine⟨_,%[%[%[%[%[%[0|0],rfl|23]|1]|12]|13]|10],?_⟩;rw [show au ["self"] [.ref s]=[some (.ref s)] from rfl];exists k;ac_rfl;intro r H1 _ e1 h1;exact k () r H1 e1 h1
theorem m9(T:Tx K mg t):aW P w K mg base CX0 1 t.a_Copy_reads t.d_Copy_reads ["self"] (AR t 2):=by
 refine T.F_Copy_reads.ok pB (λ vs H Q E h=>nM _ _ h) (λ cdv A outer s0 H vs Q E hr h=>?_)
 ·obtain⟨s,rfl,u,v,dx,x,hs,k⟩:=h;have hs':H s=some (.ins t.a_Copy dx [("to",V.ref u),("source",V.ref v)]):=hs;clear hs;have c0:=T.na_Copy_source;have l0:([("to",V.ref u),("source",V.ref v)]:List (Str × V)).lookup (Str.ofString "source")=some (V.ref v):=by rfl
  have c9:=T.cl_Copy;refine⟨_,%[%[%[%[%[%[0|0],rfl|23]|1]|12]|13]|10],?_⟩;rw [show au ["self"] [.ref s]=[some (.ref s)] from rfl];exists k;ac_rfl;intro r H1 _ e1 h1;exact k () r H1 e1 h1
theorem kF(T:Tx K mg t):aW P w K mg base CX0 1 t.a_Swap_writes t.d_Swap_writes ["self"] (AQ t 3):=by
 refine T.F_Swap_writes.ok nt (λ vs H Q E h=>nL _ _ h) (λ cdv A outer s0 H vs Q E hr h=>?_)
 ·obtain⟨s,rfl,u,v,dx,x,hs,k⟩:=h;have hs':H s=some (.ins t.a_Swap dx [("one",V.ref u),("other",V.ref v)]):=hs;clear hs;have c0:=T.na_Swap_one;have l0:([("one",V.ref u),("other",V.ref v)]:List (Str × V)).lookup (Str.ofString "one")=some (V.ref u):=by rfl
  have c1:=T.na_Swap_other;have l1:([("one",V.ref u),("other",V.ref v)]:List (Str × V)).lookup (Str.ofString "other")=some (V.ref v):=by rfl
  have c9:=T.cl_Swap;refine⟨_,%[%[%[%[%[%[0|0],rfl|23],%[%[%[0|0],rfl|23]|1]|1]|12]|13]|10],?_⟩;rw [show au ["self"] [.ref s]=[some (.ref s)] from rfl];exists k;ac_rfl;intro r H1 _ e1 h1;exact k () r H1 e1 h1
theorem m8(T:Tx K mg t):aW P w K mg base CX0 1 t.a_Swap_reads t.d_Swap_reads ["self"] (AR t 3):=by
 refine T.F_Swap_reads.ok pA (λ vs H Q E h=>nM _ _ h) (λ cdv A outer s0 H vs Q E hr h=>?_)
 ·obtain⟨s,rfl,u,v,dx,x,hs,k⟩:=h;have hs':H s=some (.ins t.a_Swap dx [("one",V.ref u),("other",V.ref v)]):=hs;clear hs;have c0:=T.na_Swap_one;have l0:([("one",V.ref u),("other",V.ref v)]:List (Str × V)).lookup (Str.ofString "one")=some (V.ref u):=by rfl
  have c1:=T.na_Swap_other;have l1:([("one",V.ref u),("other",V.ref v)]:List (Str × V)).lookup (Str.ofString "other")=some (V.ref v):=by rfl
  have c9:=T.cl_Swap;refine⟨_,%[%[%[%[%[%[0|0],rfl|23],%[%[%[0|0],rfl|23]|1]|1]|12]|13]|10],?_⟩;rw [show au ["self"] [.ref s]=[some (.ref s)] from rfl];exists k;ac_rfl;intro r H1 _ e1 h1;exact k () r H1 e1 h1
theorem j8(T:Tx K mg t):aW P w K mg base CX0 1 t.a_Raise_writes t.d_Raise_writes ["self"] (AQ t 4):=by
 refine T.F_Raise_writes.ok kL (λ vs H Q E h=>nL _ _ h) (λ cdv A outer s0 H vs Q E hr h=>?_)
 ·obtain⟨s,rfl,u,v,dx,x,hs,k⟩:=h;have hs':H s=some (.ins t.a_Raise dx [("to",V.ref u),("source",V.ref v)]):=hs;clear hs;have c0:=T.na_Raise_to;have l0:([("to",V.ref u),("source",V.ref v)]:List (Str × V)).lookup (Str.ofString "to")=some (V.ref u):=by rfl
  have c9:=T.cl_Raise;refine⟨_,%[%[%[%[%[%[0|0],rfl|23]|1]|12]|13]|10],?_⟩;rw [show au ["self"] [.ref s]=[some (.ref s)] from rfl];exists k;ac_rfl;intro r H1 _ e1 h1;exact k () r H1 e1 h1
theorem kG(T:Tx K mg t):aW P w K mg base CX0 1 t.a_Raise_reads t.d_Raise_reads ["self"] (AR t 4):=by
 refine T.F_Raise_reads.ok nu (λ vs H Q E h=>nM _ _ h) (λ cdv A outer s0 H vs Q E hr h=>?_)
 ·obtain⟨s,rfl,u,v,dx,x,hs,k⟩:=h;have hs':H s=some (.ins t.a_Raise dx [("to",V.ref u),("source",V.ref v)]):=hs;clear hs;have c0:=T.na_Raise_source;have l0:([("to",V.ref u),("source",V.ref v)]:List (Str × V)).lookup (Str.ofString "source")=some (V.ref v):=by rfl
  have c1:=T.na_Raise_to;have l1:([("to",V.ref u),("source",V.ref v)]:List (Str × V)).lookup (Str.ofString "to")=some (V.ref u):=by rfl
  have c9:=T.cl_Raise;refine⟨_,%[%[%[%[%[%[0|0],rfl|23],%[%[%[0|0],rfl|23]|1]|1]|12]|13]|10],?_⟩;rw [show au ["self"] [.ref s]=[some (.ref s)] from rfl];exists k;ac_rfl;intro r H1 _ e1 h1;exact k () r H1 e1 h1
theorem gE(T:Tx K mg t):aW P w K mg base CX0 1 t.a_Statement_reads t.d_Statement_reads ["self"] (AR t 1):=by
 refine T.F_Statement_reads.ok eo (λ vs H Q E h=>nM _ _ h) (λ cdv A outer s0 H vs Q E hr h=>?_)
 ·obtain⟨s,rfl,u,v,dx,x,hs,k⟩:=h;have hs':H s=some (.ins t.a_Fill dx [("to",V.ref u),("value",x)]):=hs;clear hs;have c9:=T.cl_Fill;refine⟨_,%[%[%[(@aH _)|12]|13]|10],?_⟩;rw [show au ["self"] [.ref s]=[some (.ref s)] from rfl];exists k;ac_rfl;intro r H1 _ e1 h1;exact k () r H1 e1 h1
theorem MDw{P:Program}{w:World}{K:W.Frag}{mg:Str->Option Value}{base:Heap}{t:Adr}(T:Tx K mg t):∀ i,i < 5->MD P w K mg base CX0 1 "writes" (BN t i) (AQ t i)
 | 0,_=>⟨T.cl_Statement,_,_,_,T.mt_Statement_writes,gC T,T.b_Statement_writes⟩
 | 1,_=>⟨T.cl_Fill,_,_,_,T.mt_Fill_writes,kH T,T.b_Fill_writes⟩
 | 2,_=>⟨T.cl_Copy,_,_,_,T.mt_Copy_writes,kI T,T.b_Copy_writes⟩
 | 3,_=>⟨T.cl_Swap,_,_,_,T.mt_Swap_writes,kF T,T.b_Swap_writes⟩
 | 4,_=>⟨T.cl_Raise,_,_,_,T.mt_Raise_writes,j8 T,T.b_Raise_writes⟩
 | n+5,h=>absurd h %[0|8]
theorem MDr{P:Program}{w:World}{K:W.Frag}{mg:Str->Option Value}{base:Heap}{t:Adr}(T:Tx K mg t):∀ i,i < 5->MD P w K mg base CX0 1 "reads" (BN t i) (AR t i)
 | 0,_=>⟨T.cl_Statement,_,_,_,T.mt_Statement_reads,gZ T,T.b_Statement_reads⟩
 | 1,_=>⟨T.cl_Fill,_,_,_,T.mt_Fill_reads,gE T,T.b_Statement_reads⟩
 | 2,_=>⟨T.cl_Copy,_,_,_,T.mt_Copy_reads,m9 T,T.b_Copy_reads⟩
 | 3,_=>⟨T.cl_Swap,_,_,_,T.mt_Swap_reads,m8 T,T.b_Swap_reads⟩
 | 4,_=>⟨T.cl_Raise,_,_,_,T.mt_Raise_reads,kG T,T.b_Raise_reads⟩
 | n+5,h=>absurd h %[0|8]
theorem Bx{w:Nat}{u v:Addr}{x:V}(hw:w < 5):(EW w u v x).lookup (Str.ofString "writes")=none/\(EW w u v x).lookup (Str.ofString "reads")=none:=by
 match w,hw with
 | 0,_=>exact⟨rfl,rfl⟩
 | 1,_=>exact⟨rfl,rfl⟩
 | 2,_=>exact⟨rfl,rfl⟩
 | 3,_=>exact⟨rfl,rfl⟩
 | 4,_=>exact⟨rfl,rfl⟩
theorem AZ{t:Adr}{H:Hp}{s:Addr}{w:Nat}{u v:Addr}{E:XK}{Q:VK}(h:um t H s w u v)(q:∀ (r:Addr) (H':Hp),Ext H H'->H' r=some (.lst ((wrs w u v).map V.ref))->Q (.ref r) H'):qQ 5 (BN t) "writes" (AQ t) E Q (.ref s) H:=by
 obtain⟨h1,dx,x,h2⟩:=h;exact⟨s,w,dx,_,rfl,h1,h2,(Bx h1).1,s,rfl,u,v,dx,x,h2,q⟩
theorem A3{t:Adr}{H:Hp}{s:Addr}{w:Nat}{u v:Addr}{E:XK}{Q:VK}(h:um t H s w u v)(q:∀ (r:Addr) (H':Hp),Ext H H'->H' r=some (.lst ((rds w u v).map V.ref))->Q (.ref r) H'):qQ 5 (BN t) "reads" (AR t) E Q (.ref s) H:=by
 obtain⟨h1,dx,x,h2⟩:=h;exact⟨s,w,dx,_,rfl,h1,h2,(Bx h1).2,s,rfl,u,v,dx,x,h2,q⟩
abbrev jR(t:Adr)(s:Addr)(H:Hp)(Q:VK)(E:XK):Prop:=∃ (w:Nat) (u v:Addr),um t H s w u v/\∀ (r:Addr) (H':Hp),Ext H H'->H' r=some (.lst ((wrs w u v++rds w u v).map V.ref))->Q (.ref r) H'
def jl(t:Adr):Sp:=λ vs H Q E=>∃ (s:Addr),vs=[.ref s]/\(jR t s H Q E)
theorem jM(t:Adr)(s:Addr)(H:Hp)(Q:VK)(E:XK):jl t [.ref s] H Q E=(jR t s H Q E):=g9 (f:=λ (s:Addr)=>[.ref s]) (λ _ _ h=>by cases h;exact rfl) s
theorem qt(t:Adr){vs:List V}{H:Hp}{Q:VK}{E:XK}(h:jl t vs H Q E):vs.length=1:=gb h λ _=>rfl
theorem qK(w:Nat)(u v:Addr):(wrs w u v).length<=2/\(rds w u v).length<=2:=by
 match w with
 | 0=>exact⟨MC _,MC _⟩
 | 1=>exact⟨Nt _,MC _⟩
 | 2=>exact⟨Nt _,Nt _⟩
 | 3=>exact⟨Mb _,Mb _⟩
 | n+4=>exact⟨Nt _,Mb _⟩
theorem er{l b:Addr}{xs ys:List V}{H:Hp}{Q:VK}(h:H l=some (.lst xs))(h':H b=some (.lst ys))(hl:xs.length+ys.length<=sizeLine)(q:nB (.lst (xs++ys)) H Q):IB Iy (.ref l) Q (.ref b) H:=by
 rw [Bq,Bp,aO,h]
 show aX (aO H b) (IC xs H Q)
 rw [aO,h'];exact⟨hl,q⟩
theorem jG(T:Tx K mg t):aW P w K mg base CX0 2 t.a_views_of t.d_views_of ["statement"] (jl t):=by
 have MD_writes:=MDw (P:=P) (w:=w) (base:=base) T;have MD_reads:=MDr (P:=P) (w:=w) (base:=base) T;refine T.F_views_of.ok tQ (λ vs H Q E h=>qt _ h) (λ cdv A outer s0 H vs Q E hr h=>?_)
 ·obtain⟨s,rfl,w',u,v,hs,k⟩:=h;refine⟨_,%[%[%[dF,%[%[0|0],MD_writes,(hr.mono ⋯),bu,∅|40],%[%[0|0],MD_reads,(hr.mono ⋯),bu,∅|40]|11]|13]|10],?_⟩;rw [show au ["statement"] [.ref s]=[some (.ref s)] from rfl];clear MD_writes MD_reads;exists k;ac_rfl;refine AZ hs λ r1 H1 e1 h1=>?_;ac_rfl;refine A3 (hs.ext e1) λ r2 H2 e2 h2=>?_;have h1_2:=e2.at h1;refine er h1_2 h2 (aC (by rw [Md,Md];have:=qK w' u v;omega)) ?_;rw [←Nc];intro r3 H3 _ e3 h3;have k2:=k () r3 H3 (e1.trans (e2.trans e3)) h3;clear k h1_2 h2 h1 hs;ac_rfl
abbrev oM(C:Addr)(u:Addr)(v:Addr)(H:Hp)(Q:VK)(E:XK):Prop:=∃ (r f1 f2:Int) (A B:List (Int × Int)),aA C H u r f1 A/\aA C H v r f2 B/\Q .non H
def pL(C:Addr):Sp:=λ vs H Q E=>∃ (u:Addr) (v:Addr),vs=[.ref u,.ref v]/\(oM C u v H Q E)
theorem oA(C:Addr)(u:Addr)(v:Addr)(H:Hp)(Q:VK)(E:XK):pL C [.ref u,.ref v] H Q E=(oM C u v H Q E):=ug (f:=λ (u:Addr) (v:Addr)=>[.ref u,.ref v]) (λ _ _ _ _ h=>by cases h;exact⟨rfl,rfl⟩) u v
theorem xG(C:Addr){vs:List V}{H:Hp}{Q:VK}{E:XK}(h:pL C vs H Q E):vs.length=2:=uh h λ _ _=>rfl
theorem fC(T:Tx K mg t):aW P w K mg base CX0 1 t.a_refuse_rooms t.d_refuse_rooms ["one", "other"] (pL t.a_View):=by
 refine T.F_refuse_rooms.ok fZ (λ vs H Q E h=>xG _ h) (λ c A o s H vs Q E hr h=>?_)
 ·obtain⟨u,v,rfl,ra,f1,f2,A,B,vu,vv,k⟩:=h;obtain⟨dx,D,hu,_⟩:=vu.ob;obtain⟨dy,D2,hv,_⟩:=vv.ob;have c1:=T.cl_View;have c4:=T.na_View_room;have g1:=cM ra f1 D;have g2:=cM ra f2 D2;refine⟨_,%[%[%[(bI hr.units),%[%[0|0],rfl|23],%[%[1|0],rfl|23],(aw _)|15],%[(@fJ _ _)|10],(@ay _)|17]|10],?_⟩;rw [show au ["one", "other"] [.ref u,.ref v]=[some (.ref u),some (.ref v)] from rfl];ac_rfl
def my(CV:Addr):Sp:=λ vs H Q E=>∃ (v:Addr) (n:Int),vs=[.ref v,.int n]/\(∃ (room first:Int) (axs:List (Int × Int)),aA CV H v room first axs/\fF axs/\n=ak (axs.map λ a=>a.1)/\∀ H',Ext H H'->Q .non H')
theorem tW(CV:Addr)(v:Addr)(n:Int)(H:Hp)(Q:VK)(E:XK):my CV [.ref v,.int n] H Q E=(∃ (room first:Int) (axs:List (Int × Int)),aA CV H v room first axs/\fF axs/\n=ak (axs.map λ a=>a.1)/\∀ H',Ext H H'->Q .non H'):=ug (f:=λ (v:Addr) (n:Int)=>[.ref v,.int n]) (λ _ _ _ _ h=>by cases h;exact⟨rfl,rfl⟩) v n
theorem tH(CV:Addr){vs:List V}{H:Hp}{Q:VK}{E:XK}(h:my CV vs H Q E):vs.length=2:=uh h λ _ _=>rfl
theorem jY(T:Tx K mg t):aW P w K mg base CX0 3 t.a_refuse_count t.d_refuse_count ["view", "many"] (my t.a_View):=by
 have G_View_count:=%[bV|41];refine T.F_refuse_count.ok kK (λ vs H Q E h=>tH _ h) (λ c A o s' H vs Q E hr h=>?_)
 ·obtain⟨v,n,rfl,room,first,axs,vo,hax,hn,k⟩:=h;obtain⟨dy,D,hv,_⟩:=vo.ob
  have f3:=vn room first D (m := "count") nofun
  have c3:=T.cl_View;refine⟨_,%[%[%[(bI hr.units),%[%[0|0],T.cl_View,T.mt_View_count,G_View_count,(hr.mono ⋯),T.b_View_count,.nil,bu,∅|36],%[1|0],(aw _)|15],%[(@fJ _ _)|10],(@ay _)|17]|10],?_⟩;rw [show au ["view", "many"] [.ref v,.int n]=[some (.ref v),some (.int n)] from rfl];clear G_View_count;subst hn;ac_rfl;rw [eh];refine⟨room,first,axs,vo,hax,λ H1 e1=>?_⟩;have k1:=k H1 e1;clear k;ac_rfl
abbrev wm(C:Addr)(u:Addr)(v:Addr)(H:Hp)(Q:VK)(E:XK):Prop:=∃ (r f1 f2:Int) (A B:List (Int × Int)),aA C H u r f1 A/\aA C H v r f2 B/\fF A/\fF B/\ak (A.map λ a=>a.1)=ak (B.map λ a=>a.1)/\∀ H',Ext H H'->Q .non H'
def BR(C:Addr):Sp:=λ vs H Q E=>∃ (u:Addr) (v:Addr),vs=[.ref u,.ref v]/\(wm C u v H Q E)
theorem qb(C:Addr)(u:Addr)(v:Addr)(H:Hp)(Q:VK)(E:XK):BR C [.ref u,.ref v] H Q E=(wm C u v H Q E):=ug (f:=λ (u:Addr) (v:Addr)=>[.ref u,.ref v]) (λ _ _ _ _ h=>by cases h;exact⟨rfl,rfl⟩) u v
theorem Ec(C:Addr){vs:List V}{H:Hp}{Q:VK}{E:XK}(h:BR C vs H Q E):vs.length=2:=uh h λ _ _=>rfl
theorem eS(T:Tx K mg t):aW P w K mg base CX0 4 t.a_refuse_two t.d_refuse_two ["one", "other"] (BR t.a_View):=by
 have G_refuse_rooms:=%[fC|41];have G_View_count:=%[bV|41];have G_refuse_count:=%[jY|41];refine T.F_refuse_two.ok pk (λ vs H Q E h=>Ec _ h) (λ c A o s H vs Q E hr h=>?_)
 ·obtain⟨u,v,rfl,ra,f1,f2,A,B,vu,vv,hA,hB,hc,k⟩:=h;obtain⟨dy,D2,hv,_⟩:=vv.ob;have f3:=vn ra f2 D2 (m := "count") nofun;have c1:=T.cl_View;refine⟨_,%[%[%[refuse_rooms,%[%[0|0],%[%[1|0]|1]|1]|3],∅|16],%[%[%[refuse_count,%[%[0|0],%[%[%[1|0],T.cl_View,T.mt_View_count,G_View_count,(hr.mono ⋯),T.b_View_count,.nil,bu,∅|36]|1]|1]|3],∅|16]|10]|9],?_⟩;rw [show au ["one", "other"] [.ref u,.ref v]=[some (.ref u),some (.ref v)] from rfl];clear G_refuse_rooms G_View_count G_refuse_count;exists k;ac_rfl;rw [oA];refine⟨ra,f1,f2,A,B,vu,vv,?_⟩;ac_rfl;rw [eh];refine⟨ra,f2,B,vv,hB,λ H1 e1=>?_⟩;ac_rfl;rw [tW];refine⟨ra,f1,A,vu.ext e1,hA,hc.symm,λ H2 e2=>?_⟩;have k2:=k () H2 (e1.trans e2);clear k;ac_rfl
abbrev oU(C:Addr)(x:Addr)(u:Addr)(y:V)(H:Hp)(Q:VK)(E:XK):Prop:=∃ dx:Addr,H x=some (.ins C dx [])/\∀ H':Hp,(∀ H0,Ext H0 H->H0 x=none->Ext H0 H')->H' x=some (.ins C dx [("to",.ref u),("value",y)])->Q .non H'
def pS(C:Addr):Sp:=λ vs H Q E=>∃ (x:Addr) (u:Addr) (y:V),vs=[.ref x,.ref u,y]/\(oU C x u y H Q E)
theorem cA(C:Addr)(x:Addr)(u:Addr)(y:V)(H:Hp)(Q:VK)(E:XK):pS C [.ref x,.ref u,y] H Q E=(oU C x u y H Q E):=yD (f:=λ (x:Addr) (u:Addr) (y:V)=>[.ref x,.ref u,y]) (λ _ _ _ _ _ _ h=>by cases h;exact⟨rfl,rfl,rfl⟩) x u y
theorem xP(C:Addr){vs:List V}{H:Hp}{Q:VK}{E:XK}(h:pS C vs H Q E):vs.length=3:=yE h λ _ _ _=>rfl
theorem cH(T:Tx K mg t):aW P w K mg base CX0 1 t.a_Fill___init__ t.d_Fill___init__ ["self", "to", "value"] (pS t.a_Fill):=by
 refine T.F_Fill___init__.ok ko (λ vs H Q E h=>xP _ h) (λ c A o s H vs Q E hr h=>?_)
 ·obtain⟨x,u,y,rfl,dx,hx,k⟩:=h;have c1:=T.cl_Fill;have c2:=T.na_Fill_to;have c3:=T.na_Fill_value;refine⟨_,%[%[%[0|0],%[1|0],rfl|34],%[%[%[0|0],%[2|0],rfl|34]|10]|9],?_⟩;rw [show au ["self", "to", "value"] [.ref x,.ref u,y]=[some (.ref x),some (.ref u),some (y)] from rfl];have k2:=λ (_:Unit)=>k (upd H x (.ins t.a_Fill dx [("to",.ref u),("value",y)])) (λ H0 q0 q1=>q0.put q1) ag;clear k;ac_rfl;refine⟨(show (1:Nat) < 1000 by decide),?_⟩;ac_rfl;exact k2 ()
abbrev iI(C CV:Addr)(x:Addr)(u:Addr)(v:Addr)(H:Hp)(Q:VK)(E:XK):Prop:=∃ (dx:Addr) (r f1 f2:Int) (A B:List (Int × Int)),H x=some (.ins C dx [])/\aA CV H u r f1 A/\aA CV H v r f2 B/\fF A/\fF B/\ak (A.map λ a=>a.1)=ak (B.map λ a=>a.1)/\∀ H':Hp,(∀ H0,Ext H0 H->H0 x=none->Ext H0 H')->H' x=some (.ins C dx [("to",.ref u),("source",.ref v)])->Q .non H'
def ij(C CV:Addr):Sp:=λ vs H Q E=>∃ (x:Addr) (u:Addr) (v:Addr),vs=[.ref x,.ref u,.ref v]/\(iI C CV x u v H Q E)
theorem pj(C CV:Addr)(x:Addr)(u:Addr)(v:Addr)(H:Hp)(Q:VK)(E:XK):ij C CV [.ref x,.ref u,.ref v] H Q E=(iI C CV x u v H Q E):=yD (f:=λ (x:Addr) (u:Addr) (v:Addr)=>[.ref x,.ref u,.ref v]) (λ _ _ _ _ _ _ h=>by cases h;exact⟨rfl,rfl,rfl⟩) x u v
theorem o8(C CV:Addr){vs:List V}{H:Hp}{Q:VK}{E:XK}(h:ij C CV vs H Q E):vs.length=3:=yE h λ _ _ _=>rfl
theorem iO(T:Tx K mg t):aW P w K mg base CX0 5 t.a_Copy___init__ t.d_Copy___init__ ["self", "to", "source"] (ij t.a_Copy t.a_View):=by
 have G_refuse_two:=%[eS|41];refine T.F_Copy___init__.ok kq (λ vs H Q E h=>o8 _ _ h) (λ cdv A' outer s H vs Q E hr h=>?_)
 ·obtain⟨x,u,v,rfl,dx,r,f1,f2,A,B,hx,vu,vv,hA,hB,hc,k⟩:=h;have c1:=T.cl_Copy;have c2:=T.na_Copy_to;have c3:=T.na_Copy_source;refine⟨_,%[%[%[refuse_two,%[%[1|0],%[%[2|0]|1]|1]|3],∅|16],%[%[%[0|0],%[1|0],rfl|34],%[%[%[0|0],%[2|0],rfl|34]|10]|9]|9],?_⟩;rw [show au ["self", "to", "source"] [.ref x,.ref u,.ref v]=[some (.ref x),some (.ref u),some (.ref v)] from rfl];clear G_refuse_two;exists k;ac_rfl;rw [qb];refine⟨r,f1,f2,A,B,vu,vv,hA,hB,hc,λ H1 e1=>?_⟩;have hx1:=e1.at hx;have k2:=λ (_:Unit)=>k () (upd H1 x (.ins t.a_Copy dx [("to",.ref u),("source",.ref v)])) (λ H0 q0 q1=>(q0.trans e1).put q1) ag;clear k hx;ac_rfl;refine⟨(show (1:Nat) < 1000 by decide),?_⟩;ac_rfl;exact k2 ()
abbrev iG(C CV:Addr)(x:Addr)(u:Addr)(v:Addr)(H:Hp)(Q:VK)(E:XK):Prop:=∃ (dx:Addr) (r f1 f2:Int) (A B:List (Int × Int)),H x=some (.ins C dx [])/\aA CV H u r f1 A/\aA CV H v r f2 B/\fF A/\fF B/\ak (A.map λ a=>a.1)=ak (B.map λ a=>a.1)/\∀ H':Hp,(∀ H0,Ext H0 H->H0 x=none->Ext H0 H')->H' x=some (.ins C dx [("one",.ref u),("other",.ref v)])->Q .non H'
def ib(C CV:Addr):Sp:=λ vs H Q E=>∃ (x:Addr) (u:Addr) (v:Addr),vs=[.ref x,.ref u,.ref v]/\(iG C CV x u v H Q E)
theorem pe(C CV:Addr)(x:Addr)(u:Addr)(v:Addr)(H:Hp)(Q:VK)(E:XK):ib C CV [.ref x,.ref u,.ref v] H Q E=(iG C CV x u v H Q E):=yD (f:=λ (x:Addr) (u:Addr) (v:Addr)=>[.ref x,.ref u,.ref v]) (λ _ _ _ _ _ _ h=>by cases h;exact⟨rfl,rfl,rfl⟩) x u v
theorem o6(C CV:Addr){vs:List V}{H:Hp}{Q:VK}{E:XK}(h:ib C CV vs H Q E):vs.length=3:=yE h λ _ _ _=>rfl
theorem iN(T:Tx K mg t):aW P w K mg base CX0 5 t.a_Swap___init__ t.d_Swap___init__ ["self", "one", "other"] (ib t.a_Swap t.a_View):=by
 have G_refuse_two:=%[eS|41];refine T.F_Swap___init__.ok kj (λ vs H Q E h=>o6 _ _ h) (λ cdv A' outer s H vs Q E hr h=>?_)
 ·obtain⟨x,u,v,rfl,dx,r,f1,f2,A,B,hx,vu,vv,hA,hB,hc,k⟩:=h;have c1:=T.cl_Swap;have c2:=T.na_Swap_one;have c3:=T.na_Swap_other;refine⟨_,%[%[%[refuse_two,%[%[1|0],%[%[2|0]|1]|1]|3],∅|16],%[%[%[0|0],%[1|0],rfl|34],%[%[%[0|0],%[2|0],rfl|34]|10]|9]|9],?_⟩;rw [show au ["self", "one", "other"] [.ref x,.ref u,.ref v]=[some (.ref x),some (.ref u),some (.ref v)] from rfl];clear G_refuse_two;exists k;ac_rfl;rw [qb];refine⟨r,f1,f2,A,B,vu,vv,hA,hB,hc,λ H1 e1=>?_⟩;have hx1:=e1.at hx;have k2:=λ (_:Unit)=>k () (upd H1 x (.ins t.a_Swap dx [("one",.ref u),("other",.ref v)])) (λ H0 q0 q1=>(q0.trans e1).put q1) ag;clear k hx;ac_rfl;refine⟨(show (1:Nat) < 1000 by decide),?_⟩;ac_rfl;exact k2 ()
abbrev gY(C CV:Addr)(x:Addr)(u:Addr)(v:Addr)(H:Hp)(Q:VK)(E:XK):Prop:=∃ (dx:Addr) (r f1 f2:Int) (A B:List (Int × Int)),H x=some (.ins C dx [])/\aA CV H u r f1 A/\aA CV H v r f2 B/\fF A/\fF B/\ak (A.map λ a=>a.1)=ak (B.map λ a=>a.1)/\∀ H':Hp,(∀ H0,Ext H0 H->H0 x=none->Ext H0 H')->H' x=some (.ins C dx [("to",.ref u),("source",.ref v)])->Q .non H'
def gq(C CV:Addr):Sp:=λ vs H Q E=>∃ (x:Addr) (u:Addr) (v:Addr),vs=[.ref x,.ref u,.ref v]/\(gY C CV x u v H Q E)
theorem nr(C CV:Addr)(x:Addr)(u:Addr)(v:Addr)(H:Hp)(Q:VK)(E:XK):gq C CV [.ref x,.ref u,.ref v] H Q E=(gY C CV x u v H Q E):=yD (f:=λ (x:Addr) (u:Addr) (v:Addr)=>[.ref x,.ref u,.ref v]) (λ _ _ _ _ _ _ h=>by cases h;exact⟨rfl,rfl,rfl⟩) x u v
theorem nj(C CV:Addr){vs:List V}{H:Hp}{Q:VK}{E:XK}(h:gq C CV vs H Q E):vs.length=3:=yE h λ _ _ _=>rfl
theorem ix(T:Tx K mg t):aW P w K mg base CX0 5 t.a_Raise___init__ t.d_Raise___init__ ["self", "to", "source"] (gq t.a_Raise t.a_View):=by
 have G_refuse_two:=%[eS|41];refine T.F_Raise___init__.ok iR (λ vs H Q E h=>nj _ _ h) (λ cdv A' outer s H vs Q E hr h=>?_)
 ·obtain⟨x,u,v,rfl,dx,r,f1,f2,A,B,hx,vu,vv,hA,hB,hc,k⟩:=h;have c1:=T.cl_Raise;have c2:=T.na_Raise_to;have c3:=T.na_Raise_source;refine⟨_,%[%[%[refuse_two,%[%[1|0],%[%[2|0]|1]|1]|3],∅|16],%[%[%[0|0],%[1|0],rfl|34],%[%[%[0|0],%[2|0],rfl|34]|10]|9]|9],?_⟩;rw [show au ["self", "to", "source"] [.ref x,.ref u,.ref v]=[some (.ref x),some (.ref u),some (.ref v)] from rfl];clear G_refuse_two;exists k;ac_rfl;rw [qb];refine⟨r,f1,f2,A,B,vu,vv,hA,hB,hc,λ H1 e1=>?_⟩;have hx1:=e1.at hx;have k2:=λ (_:Unit)=>k () (upd H1 x (.ins t.a_Raise dx [("to",.ref u),("source",.ref v)])) (λ H0 q0 q1=>(q0.trans e1).put q1) ag;clear k hx;ac_rfl;refine⟨(show (1:Nat) < 1000 by decide),?_⟩;ac_rfl;exact k2 ()
theorem lY{n:Nat}(h:n<=100000):n<=sizeLine:=MQ h ⋯
def VwC(C:Addr)(H:Hp)(x:Addr)(room:Int)(cs:List Int):Prop:=∃ f A,aA C H x room f A/\fF A/\ak (A.map λ a=>a.1)<=4096/\ai f A=cs
theorem VwC.ext{C:Addr}{H H':Hp}{x:Addr}{room:Int}{cs:List Int}(h:VwC C H x room cs)(e:Ext H H'):VwC C H' x room cs:=by
 obtain⟨f,A,h1,h2⟩:=h;exact⟨f,A,h1.ext e,h2⟩
theorem VwC.len{C:Addr}{H:Hp}{x:Addr}{room:Int}{cs:List Int}(h:VwC C H x room cs):cs.length<=4096:=by
 obtain⟨f,A,_,h2,h3,rfl⟩:=h;have:=bx f A λ a ha=>(h2.2 a ha).1;omega
def VwL(C:Addr)(H:Hp)(room:Int)(cel:Addr->List Int)(xs:List Addr):Prop:=∀ x∈xs,VwC C H x room (cel x)
theorem VwL.ext{C:Addr}{H H':Hp}{room:Int}{cel:Addr->List Int}{xs:List Addr}(h:VwL C H room cel xs)(e:Ext H H'):VwL C H' room cel xs:=λ x hx=>(h x hx).ext e
theorem wc{xs:List Addr}{x:Addr}{ys:List Addr}(h:xs=x::ys):atI (xs.map V.ref) 0=some (.ref x):=by rw [h];exact bA (show ((x::ys).map V.ref)[0]? = some (.ref x) from rfl)
abbrev lG(C:Addr)(p:Addr)(H:Hp)(Q:VK)(E:XK):Prop:=∃ (xs:List Addr) (room:Int) (cel:Addr->List Int),H p=some (.lst (xs.map V.ref))/\VwL C H room cel xs/\∀ H',Ext H H'->Q .non H'
def mx(C:Addr):Sp:=λ vs H Q E=>∃ (p:Addr),vs=[.ref p]/\(lG C p H Q E)
theorem tU(C:Addr)(p:Addr)(H:Hp)(Q:VK)(E:XK):mx C [.ref p] H Q E=(lG C p H Q E):=g9 (f:=λ (p:Addr)=>[.ref p]) (λ _ _ h=>by cases h;exact rfl) p
theorem tG(C:Addr){vs:List V}{H:Hp}{Q:VK}{E:XK}(h:mx C vs H Q E):vs.length=1:=gb h λ _=>rfl
theorem jX(T:Tx K mg t):aW P w K mg base CX0 4 t.a_refuse_views t.d_refuse_views ["views"] (mx t.a_View):=by
 have G_refuse_rooms:=%[fC|41];have G_View_count:=%[bV|41];have G_refuse_long:=%[fY|41];refine T.F_refuse_views.ok aY (λ vs H Q E h=>tG _ h) (λ c A o s H vs Q E hr h=>?_)
 ·obtain⟨p,rfl,xs,room,cel,hp,hv,k⟩:=h;have c1:=T.cl_View;refine⟨_,%[%[Mt,rfl,%[%[0|0]|18],%[1,aY|5],%[%[%[refuse_rooms,%[%[bL,%[0|0],%[0|2],(λ _ _=>rfl)|14],%[%[1|0]|1]|1]|3],∅|16]|10],(by intros;rfl)|21],%[%[Mt,rfl,%[%[0|0]|18],%[1,aY|5],%[%[%[refuse_long,%[%[%[1|0],T.cl_View,T.mt_View_count,G_View_count,(hr.mono ⋯),T.b_View_count,.nil,bu,∅|36]|1]|3],∅|16]|10],(by intros;rfl)|21]|10]|9],?_⟩;rw [show au ["views", "view"] [.ref p]=[some (.ref p),none] from rfl];clear G_refuse_rooms G_View_count G_refuse_long;exists k;exists hv;ac_rfl;refine aZ (xs:=xs.map V.ref) (λ i σ H'=>∃ v:Option V,σ=[some (.ref p),v]/\Ext H H') ⟨none,rfl,Ext.refl _⟩ (λ i σ H' _ ⟨_,_,e⟩=>e.at hp) ?_ ?_
  ·rintro i y _ H1 hi ⟨v,rfl,e1⟩;obtain⟨x,hx,rfl⟩:=MM.mp (Mu hi)
   obtain⟨x0,ys,hxs⟩:∃ x0 ys,xs=x0::ys:=by
    cases xs with
    | nil=>cases hx
    | cons a b=>exact⟨a,b,rfl⟩
   have hat:=wc hxs;have hp1:=e1.at hp;obtain⟨f0,A0,w0,_⟩:=hv () x0 (by rw [hxs];exact Mx);obtain⟨f1,A1,w1,_⟩:=hv () x hx;clear hi hxs hp;simp! only [↓aD];rw [oA];refine⟨room,f0,f1,A0,A1,w0.ext e1,w1.ext e1,?_⟩;ac_rfl;exact⟨_,rfl,e1⟩
  ·rintro _ H1 ⟨v,rfl,e1⟩;have hp1:=e1.at hp;ac_rfl;refine aZ (xs:=xs.map V.ref) (λ i σ H'=>∃ v:Option V,σ=[some (.ref p),v]/\Ext H H') ⟨_,rfl,e1⟩ (λ i σ H' _ ⟨_,_,e⟩=>e.at hp) ?_ ?_
   ·clear e1 hp1;rintro i y _ H2 hi ⟨v,rfl,e2⟩;obtain⟨x,hx,rfl⟩:=MM.mp (Mu hi);obtain⟨f1,A1,w1,hA,hn,_⟩:=hv () x hx;have w2:=w1.ext e2;obtain⟨dy,D,hv2,_⟩:=w2.ob;have f3:=vn room f1 D (m := "count") nofun;clear hi hp;simp! only [↓aD];rw [eh];refine⟨room,f1,A1,w2,hA,λ H3 e3=>?_⟩;ac_rfl;rw [rR];refine⟨λ _=>?_,by omega⟩;have e23:=e2.trans e3;clear w1 w2 hv2;ac_rfl;exact⟨_,rfl,e23⟩
   ·rintro _ H2 ⟨v,rfl,e2⟩;have k2:=k () H2 e2;clear k;ac_rfl
def bM(ks:List Int):List (Key × V):=ks.map λ k=>(.inl k,.bl true)
def yG(ks:List Int)(c:Int):List Int:=if c∈ks then ks else ks++[c]
theorem vq:∀ (ks:List Int) (c:Int),((bM ks).any λ kv=>decide (kv.1=(.inl c:Key)))=decide (c∈ks)
 | [],c=>by simp [bM]
 | k::ks,c=>by
  have ih:=vq ks c
  show (decide ((.inl k:Key)=.inl c) || ((bM ks).any λ kv=>decide (kv.1=(.inl c:Key))))=_
  rw [ih]
  by_cases h:k=c
  ·subst h;simp
  ·have h1:¬ (.inl k:Key)=.inl c:=λ e=>h (Sum.inl.inj e);rw [MB h1,OO]
   by_cases h2:c∈ks
   ·rw [MW h2,MW (Mp _ h2)]
   ·rw [MB h2,MB (λ z=>(ML.mp z).elim (λ e=>h e.symm) h2)]
theorem zv(ks:List Int)(c:Int):ky (bM ks) (.inl c:Key) (.bl true)=bM (yG ks c):=by
 unfold ky yG;rw [vq]
 by_cases h:c∈ks
 ·rw [if_pos (decide_eq_true h),if_pos h];unfold bM;rw [map_map];refine List.map_congr_left λ k _=>?_
  show (if (.inl k:Key)=.inl c then _ else _)=_
  split<;>rfl
 ·rw [if_neg (by rw [decide_eq_false h];decide),if_neg h];unfold bM;rw [map_append];rfl
theorem Ei(ks:List Int)(c x:Int):x∈yG ks c ↔ x∈ks\/x=c:=by
 unfold yG
 by_cases h:c∈ks
 ·rw [My h];exact⟨.inl,λ z=>z.elim id λ e=>by rw [e];exact h⟩
 ·rw [Mw h,MA,Mh]
theorem Ej(ks:List Int)(c:Int):(yG ks c).length<=ks.length+1:=by
 unfold yG;split
 ·omega
 ·rw [Ml,Mv];omega
theorem cK(ks:List Int):(bM ks).length=ks.length:=by unfold bM;rw [length_map]
def CoI(H H':Hp)(d:Addr)(S:List Int)(n:Nat):Prop:=∃ ks,Ext H H'/\H' d=some (.dK (bM ks))/\(∀ c,c∈ks ↔ c∈S)/\ks.length<=n
abbrev jW(C:Addr)(p:Addr)(H:Hp)(Q:VK)(E:XK):Prop:=∃ (xs:List Addr) (room:Int) (cel:Addr->List Int),H p=some (.lst (xs.map V.ref))/\xs.length<=8/\VwL C H room cel xs/\∀ (d:Addr) (H':Hp),H d=none->CoI H H' d (xs.flatMap cel) 40000->Q (.ref d) H'
def jr(C:Addr):Sp:=λ vs H Q E=>∃ (p:Addr),vs=[.ref p]/\(jW C p H Q E)
theorem jP(C:Addr)(p:Addr)(H:Hp)(Q:VK)(E:XK):jr C [.ref p] H Q E=(jW C p H Q E):=g9 (f:=λ (p:Addr)=>[.ref p]) (λ _ _ h=>by cases h;exact rfl) p
theorem qz(C:Addr){vs:List V}{H:Hp}{Q:VK}{E:XK}(h:jr C vs H Q E):vs.length=1:=gb h λ _=>rfl
theorem qf(T:Tx K mg t):aW P w K mg base CX0 5 t.a_cells_of t.d_cells_of ["views"] (jr t.a_View):=by
 have G_View_cells:=%[m7|41];refine T.F_cells_of.ok fR (λ vs H Q E h=>qz _ h) (λ c A o s H vs Q E hr h=>?_)
 ·obtain⟨p,rfl,xs,room,cel,hp,hxl,hv,k⟩:=h;have c1:=T.cl_View;refine⟨_,%[%[1,fR,(@mG _ _)|4],%[%[Mt,rfl,%[%[0|0]|18],%[2,fR|5],%[%[Mt,rfl,%[%[%[2|0],T.cl_View,T.mt_View_cells,G_View_cells,(hr.mono ⋯),T.b_View_cells,.nil,bu,∅|36]|18],%[3,fR|5],%[(@lU _ _ _ _ _ _ _ _ _ (fT hr.units) %[1|0] %[3|0] (@dh _ _ _ _) rfl)|10],(by intros;rfl)|21]|10],(by intros;rfl)|21],%[%[%[1|0]|13]|10]|9]|9],?_⟩;rw [show au ["views", "found", "view", "cell"] [.ref p]=[some (.ref p),none,none,none] from rfl];clear G_View_cells;exists k;exists hv;ac_rfl;intro d H1 hd e1 h1;have hp1:=e1.at hp;have ini:CoI H H1 d ((xs.take 0).flatMap cel) (4096 * 0):=⟨[],e1,h1,(λ c=>by simp),MC _⟩;clear h1 e1;ac_rfl;refine aZ (xs:=xs.map V.ref) (λ i σ H'=>∃ v2 v3:Option V,σ=[some (.ref p),some (.ref d),v2,v3]/\CoI H H' d ((xs.take i).flatMap cel) (4096 * i)) ⟨none,none,rfl,ini⟩ (λ i σ H' _ ⟨_,_,_,_,e,_⟩=>e.at hp) ?_ ?_
  ·clear ini hp1;rintro i y _ H2 hi ⟨v2,v3,rfl,ks,e2,h2,hks,hkl⟩;rw [Mq] at hi;obtain⟨x,hix,rfl⟩:=Mg.mp hi;have hx:=Mu hix;have hil:i < xs.length:=(L9.mp hix).1;have hvx:=hv () x hx;have hcl:=hvx.len;obtain⟨f1,A1,w1,hA,hn,hce⟩:=hvx.ext e2;obtain⟨dy,D,hv2,_⟩:=w1.ob;have f3:=vn room f1 D (m := "cells") nofun;exists hks;clear hi hvx;simp! only [↓aD];rw [yu];refine⟨room,f1,A1,w1,hA,λ _ r H3 hr3 e3 h3=>?_,by omega⟩;rw [hce] at h3;have h2_3:=e3.at h2;have nrd:r ≠ d:=λ e=>by rw [e,h2] at hr3;cases hr3
   have hS:(xs.take (i+1)).flatMap cel=(xs.take i).flatMap cel++cel x:=by rw [M7,hix,List.flatMap_append];simp
   have ini:CoI H H3 d ((xs.take i).flatMap cel++(cel x).take 0) (4096 * i+0):=⟨ks,e2.trans e3,h2_3,(λ c=>by rw [N2,Oq];exact hks () c),hkl⟩;exists hS;clear w1 hv2 hks h2 h2_3 hce;ac_rfl;refine aZ (xs:=(cel x).map V.int) (λ j σ H'=>∃ v3:Option V,σ=[some (.ref p),some (.ref d),some (.ref x),v3]/\H' r=some (.lst ((cel x).map V.int))/\CoI H H' d ((xs.take i).flatMap cel++(cel x).take j) (4096 * i+j)) ⟨_,rfl,h3,ini⟩ (λ j σ H' _ ⟨_,_,h,_⟩=>h) ?_ ?_
   ·clear ini h3;rintro j y _ H4 hj ⟨v3,rfl,h4r,ks,e4,h4,hks,hkl4⟩;rw [Mq] at hj;obtain⟨c,hjc,rfl⟩:=Mg.mp hj;have hjl:j < (cel x).length:=(L9.mp hjc).1
    have fin:CoI H (upd H4 d (.dK (bM (yG ks c)))) d ((xs.take i).flatMap cel++(cel x).take (j+1)) (4096 * i+(j+1)):=⟨yG ks c,e4.put hd,ag,(λ z=>by
     rw [Ei,hks z,M7,hjc,MA,MA,MA]
     show _\/z=c ↔ _\/_\/z∈[c]
     rw [Mh,or_assoc]),by have:=Ej ks c;omega⟩
    have hr4:upd H4 d (.dK (bM (yG ks c))) r=some (.lst ((cel x).map V.int)):=by rw [ae nrd];exact h4r
    have hlim:(bM ks).length < sizeLine:=by rw [cK];exact lY %[0|8]
    exists hks;clear hj;simp! only [↓aD];refine gG (k:=.inl c) h4 hlim ?_;rw [zv];exact⟨_,rfl,hr4,fin⟩
   ·rintro _ H4 ⟨v3,rfl,h4r,ks,e4,h4,hks,hkl4⟩;rw [Md] at hks hkl4;rw [MX,←hS ()] at hks;have fin:CoI H H4 d ((xs.take (i+1)).flatMap cel) (4096 * (i+1)):=⟨ks,e4,h4,hks,by omega⟩;clear hks h4 e4 h4r;ac_rfl
    first|exact⟨_,_,rfl,fin⟩|exact⟨_,_,rfl⟩
  ·rintro _ H2 ⟨v2,v3,rfl,ks,e2,h2,hks,hkl⟩;rw [Md] at hks hkl;rw [MX] at hks;have k2:=k () d H2 hd ⟨ks,e2,h2,hks,by omega⟩;clear k hks;ac_rfl
theorem Fun.x{K:W.Frag}{x qual:Str}{st:Stmt}{f:Addr}{fd:FuncData}(F:Fun K x qual st f fd):IL K x qual st f fd:=by
 obtain⟨oc,od,kV,doc,pm,an,cdv,ct,osl,e,lk,hcd⟩:=F.ex;exact⟨⟨oc,od,.none,kV,doc,pm,an,cdv,ct,osl,e,lk,hcd⟩,F.kp⟩
abbrev lF(C cN:Addr)(u:Addr)(v:Addr)(H:Hp)(Q:VK)(E:XK):Prop:=∃ (r1 r2 f1 f2:Int) (A B:List (Int × Int)),aA C H u r1 f1 A/\aA C H v r2 f2 B/\(r1=r2->Q .non H)/\(r1 ≠ r2->∀ H',Ext H H'->E (.ref cN) none H')
def mr(C cN:Addr):Sp:=λ vs H Q E=>∃ (u:Addr) (v:Addr),vs=[.ref u,.ref v]/\(lF C cN u v H Q E)
theorem tS(C cN:Addr)(u:Addr)(v:Addr)(H:Hp)(Q:VK)(E:XK):mr C cN [.ref u,.ref v] H Q E=(lF C cN u v H Q E):=ug (f:=λ (u:Addr) (v:Addr)=>[.ref u,.ref v]) (λ _ _ _ _ h=>by cases h;exact⟨rfl,rfl⟩) u v
theorem tF(C cN:Addr){vs:List V}{H:Hp}{Q:VK}{E:XK}(h:mr C cN vs H Q E):vs.length=2:=uh h λ _ _=>rfl
theorem iQ(T:Tx K mg t):aW P w K mg base (CX1 P  w) 1 t.a_refuse_rooms t.d_refuse_rooms ["one", "other"] (mr t.a_View t.a_NoPair):=by
 refine(Fun.x T.F_refuse_rooms).ok fZ (λ vs H Q E h=>tF _ _ h) (λ c A o s H vs Q E hr h=>?_)
 ·obtain⟨u,v,rfl,ra,rb,f1,f2,A,B,vu,vv,kQ,kE⟩:=h;obtain⟨dx,D,hu,_⟩:=vu.ob;obtain⟨dy,D2,hv,_⟩:=vv.ob;have c1:=T.cl_View;have c4:=T.na_View_room;have g1:=cM ra f1 D;have g2:=cM rb f2 D2;refine⟨_,%[%[%[(bI hr.units),%[%[0|0],rfl|23],%[%[1|0],rfl|23],(aw _)|15],%[(@zz _ _ _ _ _ _ _ _ _ _ rfl ∅ T.m_NoPair ⟨T.o_NoPair⟩ (λ σ=>sF) %[(@fU _ _ _ _)|1] ∅ ∅ ⋯)|10],(@ay _)|17]|10],?_⟩;rw [show au ["one", "other"] [.ref u,.ref v]=[some (.ref u),some (.ref v)] from rfl]
  by_cases he:ra=rb
  ·subst he;have k':=kQ rfl;clear kQ kE;ac_rfl
  ·have k':=kE he H (Ext.refl _);clear kQ kE;ac_rfl
theorem dg(T:Tx K mg t):aW P w K mg base CX0 1 t.a_TooMany___init__ t.d_TooMany___init__ ["self", "number"] (IV t.a_TooMany "number"):=by
 refine T.F_TooMany___init__.ok g7 (λ vs H Q E h=>HV _ _ h) (λ c A o s H vs Q E hr h=>?_)
 ·obtain⟨e,x,rfl,he,k⟩:=h;refine⟨_,%[%[(@zC _ _ _ _ _ _ _ _ _ _ ∅ T.m_PaceError T.bi_PaceError %[%[0|0],%[%[1|0]|1]|1] ⋯ ∅ ∅ ∅),∅|16],%[(@Cz _ _ _ _ _ _ _ _ %[0|0] %[1|0] rfl)|10]|9],?_⟩;rw [show au ["self", "number"] [.ref e,x]=[some (.ref e),some (x)] from rfl];ac_rfl;refine⟨e,_,_,_,[x],rfl,he,T.oi_TooMany,(show 1<=sizeLine by decide),?_⟩;ac_rfl;exact⟨e,_,rfl,he,T.oi_TooMany.st,T.tk_TooMany_number,λ dx H' h1 h2 h3 h4 h5=>k dx H' h1 h2 h3 h4 h5⟩
abbrev oP(cT:Addr)(n:Int)(H:Hp)(Q:VK)(E:XK):Prop:=(n<=4096->Q .non H)/\(4096 < n->∀ dx H',Ext H H'->H' dx=some (.xd [("number",.int n)])->E (.ref cT) (some dx) H')
def pO(cT:Addr):Sp:=λ vs H Q E=>∃ (n:Int),vs=[.int n]/\(oP cT n H Q E)
theorem yn(cT:Addr)(n:Int)(H:Hp)(Q:VK)(E:XK):pO cT [.int n] H Q E=(oP cT n H Q E):=g9 (f:=λ (n:Int)=>[.int n]) (λ _ _ h=>by cases h;exact rfl) n
theorem xJ(cT:Addr){vs:List V}{H:Hp}{Q:VK}{E:XK}(h:pO cT vs H Q E):vs.length=1:=gb h λ _=>rfl
theorem j9(T:Tx K mg t):aW P w K mg base (CX1 P  w) 3 t.a_refuse_long t.d_refuse_long ["count"] (pO t.a_TooMany):=by
 have G_TooMany___init__:=%[dg|41];refine(Fun.x T.F_refuse_long).ok gX (λ vs H Q E h=>xJ _ h) (λ c A o s H vs Q E hr h=>?_)
 ·obtain⟨n,rfl,k1,k2⟩:=h;refine⟨_,%[%[%[pF,%[0|0],(@cS _ _ (.int 4096) _ _ ∅ T.m_MOST_TOLD.choose_spec ⟨_,rfl⟩ ⋯),(aw _)|15],%[(@nZ _ _ _ _ _ _ _ _ _ _ _ _ _ _ _ rfl ∅ T.m_TooMany T.oi_TooMany G_TooMany___init__ (hr.mono ⋯) T.b_TooMany___init__ (λ σ=>jE) %[%[0|0]|1] ∅ ∅ ⋯)|10],(@ay _)|17]|10],?_⟩;rw [show au ["count"] [.int n]=[some (.int n)] from rfl]
  by_cases hn:4096 < n
  ·have k2':=k2 hn;clear k1 k2;ac_rfl;exact Bw k2'
  ·have k1':=k1 %[0|8];clear k1 k2;ac_rfl
def VwN(C:Addr)(H:Hp)(x:Addr)(room n:Int):Prop:=∃ f A,aA C H x room f A/\fF A/\ak (A.map λ a=>a.1)=n
theorem VwN.ext{C:Addr}{H H':Hp}{x:Addr}{room n:Int}(h:VwN C H x room n)(e:Ext H H'):VwN C H' x room n:=by
 obtain⟨f,A,h1,h2⟩:=h;exact⟨f,A,h1.ext e,h2⟩
def VwX(C:Addr)(H:Hp)(rm cn:Addr->Int)(xs:List Addr):Prop:=∀ x∈xs,∃ f A,aA C H x (rm x) f A/\fF A/\ak (A.map λ a=>a.1)=cn x
def RmE(rm:Addr->Int)(x0:Addr)(xs:List Addr):Prop:=∀ x∈xs,rm x=rm x0
def CnE(cn:Addr->Int)(xs:List Addr):Prop:=∀ x∈xs,cn x<=4096
theorem gU{xs:List Addr}{i:Nat}{x y:Addr}(h:xs[i]? = some x)(hy:y∈xs.take (i+1)):y∈xs.take i\/y=x:=by
 rw [M7,h] at hy
 rcases MA.mp hy with q|q
 ·exact .inl q
 ·exact .inr (by simpa using q)
abbrev jU(C cN cT:Addr)(p:Addr)(H:Hp)(Q:VK)(E:XK):Prop:=∃ (x0:Addr) (ys:List Addr) (rm cn:Addr->Int),H p=some (.lst ((x0::ys).map V.ref))/\VwX C H rm cn (x0::ys)/\(¬ RmE rm x0 (x0::ys)\/¬ CnE cn (x0::ys))/\(¬ RmE rm x0 (x0::ys)->∀ H',Ext H H'->E (.ref cN) none H')/\(RmE rm x0 (x0::ys)->∀ n,(∃ x∈x0::ys,cn x=n/\4096 < n)->∀ dx H',Ext H H'->H' dx=some (.xd [("number",.int n)])->E (.ref cT) (some dx) H')
def jo(C cN cT:Addr):Sp:=λ vs H Q E=>∃ (p:Addr),vs=[.ref p]/\(jU C cN cT p H Q E)
theorem qE(C cN cT:Addr)(p:Addr)(H:Hp)(Q:VK)(E:XK):jo C cN cT [.ref p] H Q E=(jU C cN cT p H Q E):=g9 (f:=λ (p:Addr)=>[.ref p]) (λ _ _ h=>by cases h;exact rfl) p
theorem qw(C cN cT:Addr){vs:List V}{H:Hp}{Q:VK}{E:XK}(h:jo C cN cT vs H Q E):vs.length=1:=gb h λ _=>rfl
theorem iP(T:Tx K mg t):aW P w K mg base (CX1 P  w) 4 t.a_refuse_views t.d_refuse_views ["views"] (jo t.a_View t.a_NoPair t.a_TooMany):=by
 have G_refuse_rooms:=%[iQ|41];have G_View_count:=%[bV|41];have G_refuse_long:=%[j9|41];refine(Fun.x T.F_refuse_views).ok aY (λ vs H Q E h=>qw _ _ _ h) (λ c A o s H vs Q E hr h=>?_)
 ·obtain⟨p,rfl,x0,ys,rm,cn,hp,hv,hbad,kN,kT⟩:=h;have c1:=T.cl_View;refine⟨_,%[%[Oi,rfl,%[%[0|0]|18],%[1,aY|5],%[%[%[G_refuse_rooms,(hr.mono ⋯),∅,T.m_refuse_rooms,T.F_refuse_rooms.kp,T.b_refuse_rooms,.nil,ed,%[%[bL,%[0|0],%[0|2],(λ _ _=>rfl)|14],%[%[1|0]|1]|1],⋯,∅,∅|39],∅|16]|10],(by intros;rfl)|21],%[%[Oi,rfl,%[%[0|0]|18],%[1,aY|5],%[%[%[G_refuse_long,(hr.mono ⋯),∅,T.m_refuse_long,T.F_refuse_long.kp,T.b_refuse_long,.nil,ed,%[%[%[1|0],T.cl_View,T.mt_View_count,G_View_count,(hr.mono ⋯),T.b_View_count,.nil,bu,∅|36]|1],⋯,∅,∅|39],∅|16]|10],(by intros;rfl)|21]|10]|9],?_⟩;rw [show au ["views", "view"] [.ref p]=[some (.ref p),none] from rfl];clear G_refuse_rooms G_View_count G_refuse_long;obtain⟨xs,hxs⟩:∃ xs,x0::ys=xs:=⟨_,rfl⟩;rw [hxs] at hp hv hbad kN kT;have hat:=wc hxs.symm;have hx0:x0∈xs:=by rw [←hxs];exact Mx
  exists kN;exists kT;exists hv;exists hbad;exists hx0;clear hxs;ac_rfl;refine aZ (xs:=xs.map V.ref) (λ i σ H'=>∃ v:Option V,σ=[some (.ref p),v]/\H'=H/\RmE rm x0 (xs.take i)) ⟨none,rfl,rfl,λ y hy=>absurd hy (by rw [N2];exact MK)⟩ (λ i σ H' _ ⟨_,_,e,_⟩=>e ▸ hp) ?_ ?_
  ·rintro i y _ _ hi ⟨v,rfl,rfl,rmi⟩;rename_i H;rw [Mq] at hi;obtain⟨x,hix,rfl⟩:=Mg.mp hi;have hx:=Mu hix;obtain⟨f0,A0,w0,_⟩:=hv () x0 (hx0 ());obtain⟨f1,A1,w1,_⟩:=hv () x hx;have stp:rm x=rm x0->RmE rm x0 (xs.take (i+1)):=λ e y hy=>(gU hix hy).elim (rmi y) λ q=>by rw [q];exact e
   have kn:rm x0 ≠ rm x->∀ H',Ext H H'->E (.ref t.a_NoPair) none H':=λ ne=>kN () λ h=>ne (h x hx).symm;exists stp;exists kn;clear hi hix rmi kN kT hbad;simp! only [↓aD];rw [tS];refine⟨rm x0,rm x,f0,f1,A0,A1,w0,w1,λ e=>?_,λ ne=>kn () ne⟩;have st:=stp () e.symm;clear stp kn w0 w1;ac_rfl
   first|exact⟨_,rfl,rfl,st⟩|exact⟨_,rfl,st⟩|exact⟨_,rfl⟩
  ·rintro _ _ ⟨v,rfl,rfl,rma⟩;rename_i H;rw [Md,MX] at rma;have hb2:¬ CnE cn xs:=(hbad ()).elim (λ h=>absurd rma h) id;have kt:=kT () rma;exists kt;exists hb2;clear kN kT hbad rma;ac_rfl;refine aZ (xs:=xs.map V.ref) (λ i σ H'=>∃ v:Option V,σ=[some (.ref p),v]/\Ext H H'/\CnE cn (xs.take i)) ⟨_,rfl,Ext.refl _,λ y hy=>absurd hy (by rw [N2];exact MK)⟩ (λ i σ H' _ ⟨_,_,e,_⟩=>e.at hp) ?_ ?_
   ·rintro i y _ H2 hi ⟨v,rfl,e2,cni⟩;rw [Mq] at hi;obtain⟨x,hix,rfl⟩:=Mg.mp hi;have hx:=Mu hix;obtain⟨f1,A1,w1,hA,hn⟩:=hv () x hx;have w2:=w1.ext e2;obtain⟨dy,D,hv2,_⟩:=w2.ob;have f3:=vn (rm x) f1 D (m := "count") nofun;have stp:cn x<=4096->CnE cn (xs.take (i+1)):=λ e y hy=>(gU hix hy).elim (cni y) λ q=>by rw [q];exact e
    exists stp;clear hi hix cni hb2;simp! only [↓aD];rw [eh];refine⟨rm x,f1,A1,w2,hA,λ H3 e3=>?_⟩;rw [hn];have e23:=e2.trans e3;ac_rfl;rw [yn];refine⟨λ hle=>?_,λ hgt dx H' e' h'=>kt () _ ⟨x,hx,rfl,hgt⟩ dx H' (e23.trans e') h'⟩;have st:=stp () hle;clear stp w1 w2 hv2 kt;ac_rfl
    first|exact⟨_,rfl,e23,st⟩|exact⟨_,rfl,e23⟩
   ·rintro _ H2 ⟨v,rfl,e2,cna⟩;rw [Md,MX] at cna;exact absurd cna (hb2 ())
theorem wo(cs:List Int)(a:Int × Int)(h:1<=a.1):bN cs (aU a)=bN cs a:=by
 unfold bN
 show (cs.flatMap λ c=>(List.range a.1.toNat).map λ (n:Nat)=>c+(n:Int) * (if a.1 > 1 then a.2 else 0))=_
 by_cases h1:a.1 > 1
 ·rw [My h1]
 ·rw [Mw h1];have e:a.1.toNat=1:=by omega
  rw [e];refine NI (λ f=>cs.flatMap f) (funext λ c=>?_);simp
theorem oo:∀ (axs:List (Int × Int)) (cs:List Int),(∀ a∈axs,(1:Int)<=a.1)->(axs.map aU).foldl bN cs=axs.foldl bN cs
 | [],cs,_=>rfl
 | a::r,cs,h=>by
  rw [Nj,OD,OD,wo cs a (h a Mx),oo r _ λ b hb=>h b (Mp _ hb)]
theorem lj(f:Int)(axs:List (Int × Int))(h:∀ a∈axs,(1:Int)<=a.1):ai f (axs.map aU)=ai f axs:=oo axs [f] h
theorem ef(axs:List (Int × Int)):(axs.map aU).map (λ a=>a.1)=axs.map λ a=>a.1:=by rw [NG];rfl
theorem nW:∀ l:List (Int × Int),(∀ a∈l,(1:Int)<=a.1)->ba (l.map aU)=ba l/\bg (l.map aU)=bg l
 | [],_=>⟨rfl,rfl⟩
 | a::r,h=>by
  obtain⟨i1,i2⟩:=nW r λ b hb=>h b (Mp _ hb);have ha:=h a Mx
  have e:((aU a).1 - 1) * (aU a).2=(a.1 - 1) * a.2:=by
   show (a.1 - 1) * (if a.1 > 1 then a.2 else 0)=_
   split
   ·rfl
   ·have:a.1=1:=by omega
    rw [this];simp
  rw [Nj,jJ,jK,jJ,jK,e,i1,i2];exact⟨rfl,rfl⟩
theorem wg{H:Hp}:∀ {A A':List (Int × Int)}{ys:List V},Al (qJ H) (axL A) ys->Al (qJ H) (axL A') ys->A=A'
 | [],[],_,_,_=>rfl
 | [],a::A',ys,h,h'=>by have h1:ys.length=0:=h.1;have h2:ys.length=(axL (a::A')).length:=h'.1;rw [h1] at h2;simp [axL] at h2
 | a::A,[],ys,h,h'=>by have h1:ys.length=0:=h'.1;have h2:ys.length=(axL (a::A)).length:=h.1;rw [h1] at h2;simp [axL] at h2
 | a::A,b::A',[],h,h'=>by have:=h.1;simp [axL] at this
 | a::A,b::A',y::ys,h,h'=>by
  obtain⟨q,rfl,hq⟩:=h.2 0 [a.1,a.2] y rfl rfl;obtain⟨q',e,hq'⟩:=h'.2 0 [b.1,b.2] (.ref q) rfl rfl;cases e;rw [hq] at hq';have e:=HO.tup.inj (MU hq')
  have e1:a.1=b.1:=by injection e with e _;injection e
  have e2:a.2=b.2:=by injection e with _ e;injection e with e _;injection e
  have ih:=wg (A:=A) (A':=A') (ys:=ys) ⟨by have:=h.1;simpa [axL] using this,λ i z x hz hx=>h.2 (i+1) z x (by simpa [axL] using hz) (by simpa using hx)⟩ ⟨by have:=h'.1;simpa [axL] using this,λ i z x hz hx=>h'.2 (i+1) z x (by simpa [axL] using hz) (by simpa using hx)⟩;rw [ih,Prod.ext e1 e2]
theorem aA.uniq{C:Addr}{H:Hp}{x:Addr}{r f r' f':Int}{A A':List (Int × Int)}(h:aA C H x r f A)(h':aA C H x r' f' A'):r=r'/\f=f'/\A=A':=by
 obtain⟨dx,l,hx,ys,hl,al⟩:=h.ob;obtain⟨dx',l',hx',ys',hl',al'⟩:=h'.ob;rw [hx] at hx'
 have e:cR r f l=cR r' f' l':=by injection hx' with e;injection e
 have a1:=cM r f l;have a2:=cW r f l;have a3:=cO r f l;rw [e,cM] at a1;rw [e,cW] at a2;rw [e,cO] at a3
 have b1:r'=r:=by injection a1 with a;injection a
 have b2:f'=f:=by injection a2 with a;injection a
 have b3:l'=l:=by injection a3 with a;injection a
 subst b3;rw [hl] at hl'
 have b4:ys=ys':=by injection hl' with a;injection a
 subst b4;exact⟨b1.symm,b2.symm,wg al al'⟩
open Classical in
noncomputable def vwH (C:Addr) (H:Hp) (x:Addr):Int × Int × List (Int × Int):=if h:∃ p:Int × Int × List (Int × Int),aA C H x p.1 p.2.1 p.2.2 then h.choose else (0,0,[])
theorem AY{C:Addr}{H:Hp}{x:Addr}{r f:Int}{A:List (Int × Int)}(h:aA C H x r f A):vwH C H x=(r,f,A):=by
 have hh:∃ p:Int × Int × List (Int × Int),aA C H x p.1 p.2.1 p.2.2:=⟨(r,f,A),h⟩;unfold vwH;rw [dif_pos hh];obtain⟨a,b,c⟩:=hh.choose_spec.uniq h;exact Prod.ext a (Prod.ext b c)
noncomputable def r8 (C:Addr) (H:Hp) (x:Addr):List Int:=ai (vwH C H x).2.1 (vwH C H x).2.2
noncomputable def rmH (C:Addr) (H:Hp) (x:Addr):Int:=(vwH C H x).1
noncomputable def cnH (C:Addr) (H:Hp) (x:Addr):Int:=ak ((vwH C H x).2.2.map λ a=>a.1)
def WrC:Nat->List Int->List Int->List Int
 | 0,_,_=>[]
 | 3,a,b=>a++b
 | _,a,_=>a
def RdC:Nat->List Int->List Int->List Int
 | 0,_,_=>[]
 | 1,_,_=>[]
 | 2,_,b=>b
 | _,a,b=>a++b
def MtP(S R:List Int):Prop:=∃ c,c∈S/\c∈R
def ClC(w:Nat)(a b:List Int)(w':Nat)(a' b':List Int):Prop:=MtP (WrC w a b) (WrC w' a' b'++RdC w' a' b')\/MtP (WrC w' a' b') (RdC w a b)
theorem FF(cel:Addr->List Int)(w:Nat)(u v:Addr):(wrs w u v).flatMap cel=WrC w (cel u) (cel v)/\(rds w u v).flatMap cel=RdC w (cel u) (cel v):=by
 match w with
 | 0=>exact⟨rfl,rfl⟩
 | 1=>exact⟨by simp [wrs,WrC],rfl⟩
 | 2=>exact⟨by simp [wrs,WrC],by simp [rds,RdC]⟩
 | 3=>exact⟨by simp [wrs,WrC],by simp [rds,RdC]⟩
 | n+4=>exact⟨by simp [wrs,WrC],by simp [rds,RdC]⟩
theorem FE{w:Nat}{a b a' b':List Int}(h1:1<=w->a=a')(h2:2<=w->b=b'):WrC w a b=WrC w a' b'/\RdC w a b=RdC w a' b':=by
 match w with
 | 0=>exact⟨rfl,rfl⟩
 | 1=>rw [h1 ⋯];exact⟨rfl,rfl⟩
 | 2=>rw [h1 ⋯,h2 ⋯];exact⟨rfl,rfl⟩
 | 3=>rw [h1 ⋯,h2 ⋯];exact⟨rfl,rfl⟩
 | n+4=>rw [h1 %[0|8],h2 %[0|8]];exact⟨rfl,rfl⟩
theorem uJ{w:Nat}{u v x:Addr}(h:x∈wrs w u v++rds w u v):(1<=w/\x=u)\/(2<=w/\x=v):=by
 match w,h with
 | 0,h=>cases h
 | 1,h=>exact .inl ⟨by decide,by simpa [wrs,rds] using h⟩
 | 2,h=>
  rcases (by simpa [wrs,rds] using h:x=u\/x=v) with e|e
  ·exact .inl ⟨by decide,e⟩
  ·exact .inr ⟨by decide,e⟩
 | 3,h=>
  rcases (by simpa [wrs,rds] using h:x=u\/x=v\/x=u\/x=v) with e|e|e|e
  ·exact .inl ⟨by decide,e⟩
  ·exact .inr ⟨by decide,e⟩
  ·exact .inl ⟨by decide,e⟩
  ·exact .inr ⟨by decide,e⟩
 | n+4,h=>
  rcases (by simpa [wrs,rds] using h:x=u\/x=v) with e|e
  ·exact .inl ⟨by omega,e⟩
  ·exact .inr ⟨by omega,e⟩
def StV(t:Adr)(H:Hp)(s:Addr)(w:Nat)(room:Int)(a b:List Int):Prop:=∃ u v,um t H s w u v/\(1<=w->VwC t.a_View H u room a)/\(2<=w->VwC t.a_View H v room b)
theorem StV.ext{t:Adr}{H H':Hp}{s:Addr}{w:Nat}{room:Int}{a b:List Int}(h:StV t H s w room a b)(e:Ext H H'):StV t H' s w room a b:=by
 obtain⟨u,v,h1,h2,h3⟩:=h;exact⟨u,v,h1.ext e,λ q=>(h2 q).ext e,λ q=>(h3 q).ext e⟩
theorem VwC.cel{C:Addr}{H:Hp}{x:Addr}{room:Int}{cs:List Int}(h:VwC C H x room cs):r8 C H x=cs/\VwC C H x room (r8 C H x):=by
 have h0:=h;obtain⟨f,A,h1,h2,h3,h4⟩:=h;have e:r8 C H x=cs:=by unfold r8;rw [AY h1];exact h4
 exact⟨e,by rw [e];exact h0⟩
def StX(t:Adr)(H:Hp)(s:Addr)(w:Nat)(room n:Int):Prop:=∃ u v,um t H s w u v/\(1<=w->VwN t.a_View H u room n)/\(2<=w->VwN t.a_View H v room n)
theorem StX.ext{t:Adr}{H H':Hp}{s:Addr}{w:Nat}{room n:Int}(h:StX t H s w room n)(e:Ext H H'):StX t H' s w room n:=by
 obtain⟨u,v,h1,h2,h3⟩:=h;exact⟨u,v,h1.ext e,λ q=>(h2 q).ext e,λ q=>(h3 q).ext e⟩
theorem VwN.fn{C:Addr}{H:Hp}{x:Addr}{room n:Int}(h:VwN C H x room n):rmH C H x=room/\cnH C H x=n:=by
 obtain⟨f,A,h1,_,h3⟩:=h;unfold rmH cnH;rw [AY h1];exact⟨rfl,h3⟩
theorem JH{w:Nat}(u v:Addr)(h:1<=w):u∈wrs w u v++rds w u v:=by
 match w,h with
 | 1,_=>simp [wrs]
 | 2,_=>simp [wrs]
 | 3,_=>simp [wrs]
 | n+4,_=>simp [wrs]
abbrev lI  (first:Int) (l:Addr) (H:Hp) (Q:VK) (E:XK):Prop:=∃ axs:List (Int × Int),aB H l (axL axs)/\fF axs/\ak (axs.map λ a=>a.1)<=4096/\∀ (r:Addr) (H':Hp),H r=none->Ext H H'->H' r=some (.lst ((ai first axs).map V.int))->Q (.ref r) H'
def mB  : Sp:=λ vs H Q E=>∃ (first:Int) (l:Addr),vs=[.int first,.ref l]/\(lI  first l H Q E)
theorem lz  (first:Int) (l:Addr) (H:Hp) (Q:VK) (E:XK):mB  [.int first,.ref l] H Q E=(lI  first l H Q E):=ug (f:=λ (first:Int) (l:Addr)=>[.int first,.ref l]) (λ _ _ _ _ h=>by cases h;exact⟨rfl,rfl⟩) first l
theorem tJ  {vs:List V}{H:Hp}{Q:VK}{E:XK}(h:mB  vs H Q E):vs.length=2:=uh h λ _ _=>rfl
theorem mX(T:Tx K mg t):aW P w K mg base CX0 1 t.a__law_cells t.d__law_cells ["_law_first", "_law_axes"] mB:=by
 refine T.F__law_cells.ok bq (λ vs H Q E h=>tJ h) (λ c A o s H vs Q E hr h=>?_)
 ·obtain⟨first,l,rfl,axs,⟨ys,hl,al⟩,hax,hpr,k⟩:=h;refine⟨_,%[%[2,bq,%[%[%[0|0]|1]|12]|4],%[%[Mt,rfl,%[%[1|0]|18],(%[(2),rfl,%[%[3,bq|5],%[%[(4),_,bq.nd,rfl,(Or.inr rfl),%[0|7]|19],(@bw _),∅|20],∅|20],∅,∅|31].mono λ _ _ _ _ h=>dY h),%[%[5,bq,%[(@aH _)|12]|4],%[%[Mt,rfl,%[%[2|0]|18],%[(6),_,bq.nd,rfl,(Or.inr rfl),%[0|7]|19],%[%[%[Mo,Nv,Nu,fg,%[5|0],%[%[(["_law_k", "_law_first", "_law_axes", "_law_cells_here", "_law_size", "_law_pace", "_law_more", "_law_cell"]),(1),(aQ (aa dn) ["_law_first", "_law_axes", "_law_cells_here", "_law_size", "_law_pace", "_law_more", "_law_cell"] rfl rfl nofun),rfl,%[∅,T.z_range,%[%[3|0]|1],∅|33],(λ C s₀ H₀ ex pn=>%[(0),_,(show List.Nodup (["_law_k", "_law_first", "_law_axes", "_law_cells_here", "_law_size", "_law_pace", "_law_more", "_law_cell"]:List Str) from by decide +kernel),rfl,(Or.inl rfl),%[0|7]|19]),(λ C s₀ H₀ ex pn=>(@bF _)),(λ C s₀ H₀ ex pn=>%[bB,%[7|0],%[fW,%[0|0],%[5|0]|11]|11]),(by intros;rfl)|28]|1],∅,∅,∅,∅,∅|30],∅|16]|10],(by intros;rfl)|21],%[%[2,bq,%[5|0]|4]|10]|9]|9],(by intros;rfl)|21],%[%[%[2|0]|13]|10]|9]|9],?_⟩;rw [show au ["_law_first", "_law_axes", "_law_cells_here", "_law_size", "_law_pace", "_law_more", "_law_cell"] [.int first,.ref l]=[some (.int first),some (.ref l),none,none,none,none,none] from rfl];ac_rfl;intro r H1 hr1 e1 h1;have hl1:=e1.at hl;have hpos:∀ a∈axs,(1:Int)<=a.1:=λ a ha=>(hax.2 a ha).1;ac_rfl;refine aZ (xs:=ys) (λ i σ H'=>∃ (r:Addr) (v3 v4 v5 v6:Option V),σ=[some (.int first),some (.ref l),some (.ref r),v3,v4,v5,v6]/\Ext H H'/\H r=none/\H' r=some (.lst ((ai first (axs.take i)).map V.int))) ⟨r,none,none,none,none,rfl,e1,hr1,h1⟩ (λ i σ H' _ ⟨_,_,_,_,_,_,e,_,_⟩=>e.at hl) ?_ ?_
  ·rintro i y _ H3 hi ⟨r3,v3,v4,v5,v6,rfl,e3,hr3,h3⟩;obtain⟨a,q,ha,rfl,hq⟩:=Cd al hi;have hq3:=e3.at hq;have hm:=hax.2 a (Mu ha)
   have hlen:(ai first (axs.take i)).length * a.1.toNat<=4096:=by
    have hl4:=bx first (axs.take i) λ b hb=>hpos b (Og hb)
    have hp:=gR (axs.map λ a=>a.1) (λ n hn=>by obtain⟨b,hb,rfl⟩:=MM.mp hn;exact hpos b hb) (i+1);rw [fN _ i a.1 (by rw [Mq,ha];rfl),←List.map_take,←hl4] at hp;have hza:((a.1.toNat:Nat):Int)=a.1:=NX %[0|8]
    have:(((ai first (axs.take i)).length * a.1.toNat:Nat):Int)<=4096:=by rw [O5,hza];omega
    omega
   have hsn:ai first (axs.take (i+1))=bN (ai first (axs.take i)) a:=by
    rw [M7,ha]
    show ai first (axs.take i++[a])=_
    rw [jL]
   rw [hsn]
   generalize ai first (axs.take i)=cs at hlen h3
   clear hsn hi k;simp! only [↓aD];intro g H4 hg4 e4 h4;have h3_4:=e4.at h3;have hg0:H g=none:=e3.free hg4;ac_rfl;refine aZ (xs:=cs.map V.int) (λ j σ H'=>∃ v6:Option V,σ=[some (.int first),some (.ref l),some (.ref r3),some (.int a.1),some (.int a.2),some (.ref g),v6]/\Ext H H'/\Ext H3 H'/\H' g=some (.lst ((bN (cs.take j) a).map V.int))) ⟨_,rfl,e3.trans e4,e4,h4⟩ (λ j σ H' _ ⟨_,_,_,e,_⟩=>e.at h3) ?_ ?_
   ·rintro j x _ H5 hj ⟨v6',rfl,e5,e35,h5⟩;rw [Mq] at hj;obtain⟨c,hc,rfl⟩:=Mg.mp hj;have hjl:j < cs.length:=(L9.mp hc).1
    have hzn:a.1.toNat<=4096:=by
     have:=Of a.1.toNat (show 1<=cs.length by omega);omega
    have hwl:(bN (cs.take j) a).length+a.1.toNat<=4096:=by
     rw [jj,OF];have:(min j cs.length+1) * a.1.toNat<=cs.length * a.1.toNat:=Of _ %[0|8];rw [Nat.add_mul,Nat.one_mul] at this;omega
    rw [kX cs a j c hc];generalize bN (cs.take j) a=ws at h5 hwl;clear hj;simp! only [↓aD];refine⟨by omega,by omega,?_⟩;refine bQ (List.range a.1.toNat) (λ _=>true) (λ m=>.int (c+(m:Int) * a.2)) (λ j x H'=>x=.int (0+(j:Nat))) iz.1 iz.2 (aC (by rw [MY];omega)) ?_ ?_
    ·intro D m x H' N1 N0 hm' hD e hx k1 _;subst hx;have hmr:=Ng.mp hm';have k1':=k1 rfl H' (Ext.refl _);rw [show c+(m:Int) * a.2=c+(0+(m:Int)) * a.2 by rw [Int.zero_add]] at k1';have hcm:uf (0+(m:Int)) a.2:=.inl ⟨by omega,by omega⟩;clear k1 hm';simp! only [↓aF,↓aK]
    ·intro D H6 hD e6 h6;rw [ud] at h6;have h5_6:=e6.at h5;have hll:ws.length+(List.range a.1.toNat).length<=sizeLine:=aC (by rw [MY];omega);clear h5;ac_rfl;refine⟨_,rfl,(e5.trans e6).put hg0,(e35.trans e6).put hg4,?_⟩;rw [Nc,NG];rfl
   ·rintro _ H5 ⟨v6',rfl,e5,e35,h5⟩;rw [Md,MX] at h5;ac_rfl;exact⟨g,_,_,_,_,rfl,e5,hg0,h5⟩
  ·rintro _ H3 ⟨r3,v3,v4,v5,v6,rfl,e3,hr3,h3⟩;have hyl:ys.length=axs.length:=by rw [al.1];unfold axL;rw [length_map]
   rw [hyl,MX] at h3;ac_rfl;exact k r3 H3 hr3 e3 h3
theorem mL(a:Int)(xs:List Int):inV (.int a) (xs.map V.int)=decide (a∈xs):=by
 unfold inV;rw [List.any_map];apply Bool.eq_iff_iff.mpr;rw [List.any_eq_true,decide_eq_true_eq];constructor
 ·rintro ⟨y,hy,e⟩;have e':eqV (.int y) (.int a)=true:=e;have:y=a:=by simpa [eqV] using e'
  rw [←this];exact hy
 ·intro h;exact⟨a,h,by show eqV (.int a) (.int a)=true;simp [eqV]⟩
theorem jz(ns:List Int):(ns.map V.int).all gh=true:=by rw [List.all_map];exact Oz.mpr λ _ _=>rfl
structure SmV(room f:Int)(A:List (Int × Int)):Prop where
 len:A.length<=2
 sz:∀ a∈A,(1<=a.1/\a.1<=4)/\(-5<=a.2/\a.2<=5)
 pr:ak (A.map λ a=>a.1)<=16
 lo:0<=f+ba A
 hi:f+bg A < room
def DvA(H:Hp)(p:Addr)(f:Int)(A:List (Int × Int)):Prop:=∃ l,H p=some (.tup [.int f,.ref l])/\aB H l (axL A)
theorem DvA.ext{H H':Hp}{p:Addr}{f:Int}{A:List (Int × Int)}(h:DvA H p f A)(e:Ext H H'):DvA H' p f A:=by
 obtain⟨l,h1,h2⟩:=h;exact⟨l,e.at h1,h2.ext e⟩
theorem SmV.axes{room f:Int}{A:List (Int × Int)}(h:SmV room f A):fF A:=⟨by have:=h.len;omega,λ a ha=>by have:=(h.sz a ha).1;omega⟩
def DrA(H:Hp)(d:Addr)(room:Int)(w:Nat)(f1:Int)(A1:List (Int × Int))(f2:Int)(A2:List (Int × Int)):Prop:=w < 5/\SmV room f1 A1/\SmV room f2 A2/\ak (A1.map λ a=>a.1)=ak (A2.map λ a=>a.1)/\∃ p1 p2 x,H d=some (.tup [.int (w:Int),.ref p1,.ref p2,.int x])/\DvA H p1 f1 A1/\DvA H p2 f2 A2
theorem DrA.ext{H H':Hp}{d:Addr}{room:Int}{w:Nat}{f1:Int}{A1:List (Int × Int)}{f2:Int}{A2:List (Int × Int)}(h:DrA H d room w f1 A1 f2 A2)(e:Ext H H'):DrA H' d room w f1 A1 f2 A2:=by
 obtain⟨h1,h2,h3,h4,p1,p2,x,h5,h6,h7⟩:=h;exact⟨h1,h2,h3,h4,p1,p2,x,e.at h5,h6.ext e,h7.ext e⟩
abbrev lK  (p:Addr) (H:Hp) (Q:VK) (E:XK):Prop:=∃ (f room:Int) (A:List (Int × Int)),DvA H p f A/\SmV room f A/\Q (.int (ak (A.map λ a=>a.1))) H
def mD  : Sp:=λ vs H Q E=>∃ (p:Addr),vs=[.ref p]/\(lK  p H Q E)
theorem lA  (p:Addr) (H:Hp) (Q:VK) (E:XK):mD  [.ref p] H Q E=(lK  p H Q E):=g9 (f:=λ (p:Addr)=>[.ref p]) (λ _ _ h=>by cases h;exact rfl) p
theorem tL  {vs:List V}{H:Hp}{Q:VK}{E:XK}(h:mD  vs H Q E):vs.length=1:=gb h λ _=>rfl
theorem mV(T:Tx K mg t):aW P w K mg base CX0 1 t.a__law_count t.d__law_count ["_law_view"] mD:=by
 refine T.F__law_count.ok cB (λ vs H Q E h=>tL h) (λ cdv A' outer s H vs Q E hr h=>?_)
 ·obtain⟨p,rfl,f,room,A,⟨l,hp,ys,hl,al⟩,sv,k⟩:=h;refine⟨_,%[%[1,cB,%[0|2]|4],%[%[Mt,rfl,%[%[bL,%[0|0],%[0|2],(λ _ _=>rfl)|14]|18],(%[(2),rfl,%[%[2,cB|5],%[%[3,cB|5],(@bw _),∅|20],∅|20],∅,∅|31].mono λ _ _ _ _ h=>dY h),%[%[1,cB,%[fW,%[1|0],%[2|0]|11]|4]|10],(by intros;rfl)|21],%[%[%[1|0]|13]|10]|9]|9],?_⟩;rw [show au ["_law_view", "_law_count_here", "_law_size", "_law_pace"] [.ref p]=[some (.ref p),none,none,none] from rfl];exists al;exists k;ac_rfl;refine aZ (xs:=ys) (λ i σ H'=>∃ v2 v3:Option V,σ=[some (.ref p),some (.int (ak ((A.map λ a=>a.1).take i))),v2,v3]/\H'=H) ⟨none,none,rfl,rfl⟩ (λ i σ H' _ ⟨_,_,_,e⟩=>e ▸ hl) ?_ ?_
  ·rintro i y _ _ hi ⟨v2,v3,rfl,rfl⟩;rename_i H;obtain⟨a,q,ha,rfl,hq⟩:=Cd (al ()) hi;have hs:=sv.sz a (Mu ha);have e:=fN (A.map λ a=>a.1) i a.1 (by rw [Mq,ha];rfl);have cm:uf (ak ((A.map λ a=>a.1).take i)) a.1:=.inr ⟨by omega,by omega⟩;rw [e];generalize ak ((A.map λ a=>a.1).take i)=pp at *;clear hi ha e k;simp! only [↓aD];exact⟨_,_,rfl⟩
  ·rintro _ _ ⟨v2,v3,rfl,rfl⟩;rename_i H;have hyl:ys.length=(A.map λ a=>a.1).length:=by rw [(al ()).1];unfold axL;rw [length_map,length_map]
   rw [hyl,MX];have k2:=k ();clear k;ac_rfl
theorem at5{x0 x1 x2 x3 x4:Addr}{w:Nat}(hw:w < 5):∃ x,atI [V.ref x0,V.ref x1,V.ref x2,V.ref x3,V.ref x4] (w:Int)=some (.ref x)/\((w=0/\x=x0)\/(w=1/\x=x1)\/(w=2/\x=x2)\/(w=3/\x=x3)\/(w=4/\x=x4)):=by
 match w,hw with
 | 0,_=>exact⟨x0,bA (j:=0) rfl,.inl ⟨rfl,rfl⟩⟩
 | 1,_=>exact⟨x1,bA (j:=1) rfl,.inr (.inl ⟨rfl,rfl⟩)⟩
 | 2,_=>exact⟨x2,bA (j:=2) rfl,.inr (.inr (.inl ⟨rfl,rfl⟩))⟩
 | 3,_=>exact⟨x3,bA (j:=3) rfl,.inr (.inr (.inr (.inl ⟨rfl,rfl⟩)))⟩
 | 4,_=>exact⟨x4,bA (j:=4) rfl,.inr (.inr (.inr (.inr ⟨rfl,rfl⟩)))⟩
def IK(H:Hp)(r:Addr)(w:Nat)(c1 c2:List Int):Prop:=∃ a b,H r=some (.tup [.ref a,.ref b])/\H a=some (.lst ((WrC w c1 c2).map V.int))/\H b=some (.lst ((RdC w c1 c2).map V.int))
theorem IK.ext{H H':Hp}{r:Addr}{w:Nat}{c1 c2:List Int}(h:IK H r w c1 c2)(e:Ext H H'):IK H' r w c1 c2:=by
 obtain⟨a,b,h1,h2,h3⟩:=h;exact⟨a,b,e.at h1,e.at h2,e.at h3⟩
abbrev jS  (d:Addr) (H:Hp) (Q:VK) (E:XK):Prop:=∃ (room:Int) (w:Nat) (f1:Int) (A1:List (Int × Int)) (f2:Int) (A2:List (Int × Int)),DrA H d room w f1 A1 f2 A2/\∀ (r:Addr) (H':Hp),Ext H H'->IK H' r w (ai f1 A1) (ai f2 A2)->Q (.ref r) H'
def jm  : Sp:=λ vs H Q E=>∃ (d:Addr),vs=[.ref d]/\(jS  d H Q E)
theorem jN  (d:Addr) (H:Hp) (Q:VK) (E:XK):jm  [.ref d] H Q E=(jS  d H Q E):=g9 (f:=λ (d:Addr)=>[.ref d]) (λ _ _ h=>by cases h;exact rfl) d
theorem qu  {vs:List V}{H:Hp}{Q:VK}{E:XK}(h:jm  vs H Q E):vs.length=1:=gb h λ _=>rfl
theorem jZ(T:Tx K mg t):aW P w K mg base CX0 2 t.a__law_touched t.d__law_touched ["_law_drawn_here"] jm:=by
 have G__law_cells:=%[mX|41];refine T.F__law_touched.ok aJ (λ vs H Q E h=>qu h) (λ cdv A' outer s H vs Q E hr h=>?_)
 ·obtain⟨d,rfl,room,w',f1,A1,f2,A2,⟨hw,s1,s2,hpe,p1,p2,x,hd,⟨l1,hp1,t1⟩,⟨l2,hp2,t2⟩⟩,k⟩:=h;refine⟨_,%[(@Bd _ _ _ _ _ _ %[0|0] (%[(4),rfl,%[%[1,aJ|5],%[%[2,aJ|5],%[%[3,aJ|5],%[%[4,aJ|5],(@bw _),∅|20],∅|20],∅|20],∅|20],∅,∅|31].mono λ _ _ _ _ h=>dY h) ∅ ∅ ∅),%[%[5,aJ,%[_law_cells,%[%[bL,%[2|0],%[0|2],(λ _ _=>rfl)|14],%[%[bL,%[2|0],%[0|2],(λ _ _=>rfl)|14]|1]|1]|3]|4],%[%[6,aJ,%[_law_cells,%[%[bL,%[3|0],%[0|2],(λ _ _=>rfl)|14],%[%[bL,%[3|0],%[0|2],(λ _ _=>rfl)|14]|1]|1]|3]|4],%[%[7,aJ,%[bL,%[%[%[(@aH _)|12],%[%[5|0],%[%[5|0],%[%[dF,%[5|0],%[6|0]|11],%[%[5|0]|1]|1]|1]|1]|1]|12],%[1|0],(λ _ _=>rfl)|14]|4],%[%[%[%[%[7|0],%[%[bL,%[%[%[(@aH _)|12],%[%[(@aH _)|12],%[%[6|0],%[%[dF,%[5|0],%[6|0]|11],%[%[dF,%[5|0],%[6|0]|11]|1]|1]|1]|1]|1]|12],%[1|0],(λ _ _=>rfl)|14]|1]|1]|22]|13]|10]|9]|9]|9]|9],?_⟩;rw [show au ["_law_drawn_here", "_law_way", "_law_one", "_law_other", "_law_value", "_law_here", "_law_there", "_law_writes"] [.ref d]=[some (.ref d),none,none,none,none,none,none,none] from rfl];clear G__law_cells;exists k;have n1:=s1.pr;have n2:=s2.pr;have q1:=bx f1 A1 λ a ha=>(s1.axes.2 a ha).1;have q2:=bx f2 A2 λ a ha=>(s2.axes.2 a ha).1;ac_rfl;rw [lz];refine⟨A1,t1,s1.axes,by omega,λ r1 H1 _ e1 h1=>?_⟩;have hp2_1:=e1.at hp2;clear hd hp1 hp2;ac_rfl;rw [lz];refine⟨A2,t2.ext e1,s2.axes,by omega,λ r2 H2 _ e2 h2=>?_⟩;have h1_2:=e2.at h1;have e02:=e1.trans e2;generalize ai f1 A1=c1 at *;generalize ai f2 A2=c2 at *;have hlen:(c1.map V.int).length+(c2.map V.int).length<=sizeLine:=aC (by rw [Md,Md];omega);clear hp2_1 h1 e1 e2;ac_rfl;intro e0 H3 _ e3 h3;refine er (e3.at h1_2) (e3.at h2) hlen ?_;rw [←Nc];intro ct H4 _ e4 h4;have e24:=e3.trans e4;have h1_4:=e24.at h1_2;have h2_4:=e24.at h2;have h3_4:=e4.at h3;clear h1_2 h2 h3 e3 e4;ac_rfl;intro L5 H5 _ e5 h5;obtain⟨xw,hatw,hxw⟩:=at5 (x0:=e0) (x1:=r1) (x2:=r1) (x3:=ct) (x4:=r1) hw;have h1_5:=e5.at h1_4;have h2_5:=e5.at h2_4;have h3_5:=e5.at h3_4;have h4_5:=e5.at h4
  have hxw5:H5 xw=some (.lst ((WrC w' c1 c2).map V.int)):=by
   rcases hxw with ⟨rfl,rfl⟩|⟨rfl,rfl⟩|⟨rfl,rfl⟩|⟨rfl,rfl⟩|⟨rfl,rfl⟩
   ·exact h3_5
   ·exact h1_5
   ·exact h1_5
   ·exact h4_5
   ·exact h1_5
  have e05:=e02.trans (e24.trans e5);clear hxw h1_4 h2_4 h3_4 h4 h3_5 h4_5 e02 e24 e5;ac_rfl;clear h5 hatw;intro a0 H6 _ e6 h6;ac_rfl;intro a1 H7 _ e7 h7;have e57:=e6.trans e7;refine er (e57.at h1_5) (e57.at h2_5) hlen ?_;rw [←Nc];intro b3 H8 _ e8 h8;have e58:=e57.trans e8;have h1_8:=e58.at h1_5;have h2_8:=e58.at h2_5;have h6_8:=(e7.trans e8).at h6;have h7_8:=e8.at h7;have hxw8:=e58.at hxw5;have e08:=e05.trans e58;clear h1_5 h2_5 h6 h7 hxw5 e6 e7 e8 e57 e58 e05;ac_rfl;refine⟨aC %[0|8],?_⟩;rw [←Nc];intro b4 H9 _ e9 h9;have h8_9:=e9.at h8;have h2_9:=e9.at h2_8;have h6_9:=e9.at h6_8;have h7_9:=e9.at h7_8;have hxw9:=e9.at hxw8;clear h8 h2_8 h1_8 h6_8 h7_8 hxw8;ac_rfl;intro L10 H10 _ e10 h10;obtain⟨xr,hatr,hxr⟩:=at5 (x0:=a0) (x1:=a1) (x2:=r2) (x3:=b3) (x4:=b4) hw
  have hxr10:H10 xr=some (.lst ((RdC w' c1 c2).map V.int)):=by
   rcases hxr with ⟨rfl,rfl⟩|⟨rfl,rfl⟩|⟨rfl,rfl⟩|⟨rfl,rfl⟩|⟨rfl,rfl⟩
   ·exact e10.at h6_9
   ·exact e10.at h7_9
   ·exact e10.at h2_9
   ·exact e10.at h8_9
   ·exact e10.at h9
  have hxw10:=e10.at hxw9;have e010:=e08.trans (e9.trans e10);clear hxr h8_9 h2_9 h6_9 h7_9 hxw9 h9 e9 e10 e08;ac_rfl;intro r11 H11 _ e11 h11;exact k () r11 H11 (e010.trans e11) ⟨xw,xr,h11,e11.at hxw10,e11.at hxr10⟩
def inC(R:List Int):V->Bool
 | .int c=>decide (c∈R)
 | _=>false
abbrev lL  (d:Addr) (d':Addr) (H:Hp) (Q:VK) (E:XK):Prop:=∃ (room:Int) (w:Nat) (f1:Int) (A1:List (Int × Int)) (f2:Int) (A2:List (Int × Int)) (w':Nat) (g1:Int) (B1:List (Int × Int)) (g2:Int) (B2:List (Int × Int)),DrA H d room w f1 A1 f2 A2/\DrA H d' room w' g1 B1 g2 B2/\∀ (b:Bool) (H':Hp),Ext H H'->(b=true ↔ ClC w (ai f1 A1) (ai f2 A2) w' (ai g1 B1) (ai g2 B2))->Q (.bl b) H'
def mE  : Sp:=λ vs H Q E=>∃ (d:Addr) (d':Addr),vs=[.ref d,.ref d']/\(lL  d d' H Q E)
theorem lB  (d:Addr) (d':Addr) (H:Hp) (Q:VK) (E:XK):mE  [.ref d,.ref d'] H Q E=(lL  d d' H Q E):=ug (f:=λ (d:Addr) (d':Addr)=>[.ref d,.ref d']) (λ _ _ _ _ h=>by cases h;exact⟨rfl,rfl⟩) d d'
theorem tM  {vs:List V}{H:Hp}{Q:VK}{E:XK}(h:mE  vs H Q E):vs.length=2:=uh h λ _ _=>rfl
theorem AX(w:Nat)(a b:List Int):(WrC w a b).length<=a.length+b.length/\(RdC w a b).length<=a.length+b.length:=by
 match w with
 | 0=>exact⟨MC _,MC _⟩
 | 1=>exact⟨Oy _ _,MC _⟩
 | 2=>exact⟨Oy _ _,Nat.le_add_left _ _⟩
 | 3=>exact⟨by show (a++b).length<=_;rw [Ml];exact Mb _,by show (a++b).length<=_;rw [Ml];exact Mb _⟩
 | n+4=>exact⟨Oy _ _,by show (a++b).length<=_;rw [Ml];exact Mb _⟩
theorem gT(T:Tx K mg t):aW P w K mg base CX0 3 t.a__law_clash t.d__law_clash ["_law_one", "_law_other"] mE:=by
 have G__law_touched:=%[jZ|41];refine T.F__law_clash.ok dC (λ vs H Q E h=>tM h) (λ cdv A' outer s H vs Q E hr h=>?_)
 ·obtain⟨d,d',rfl,room,w1,f1,A1,f2,A2,w2,g1,B1,g2,B2,hd,hd',k⟩:=h;refine⟨_,%[(@dX _ _ (2) _ _ _ _ dC.nd rfl (Or.inr rfl) %[_law_touched,%[%[0|0]|1]|3] ∅ %[0|7]),%[%[3,dC,%[_law_touched,%[%[1|0]|1]|3]|4],%[%[Mt,rfl,%[%[bL,%[2|0],%[0|2],(λ _ _=>rfl)|14]|18],%[4,dC|5],%[%[(PW.pt %[%[uY,%[4|0],%[bL,%[3|0],%[0|2],(λ _ _=>rfl)|14],(by with_unfolding_all rfl)|15],%[%[uY,%[4|0],%[bL,%[3|0],%[0|2],(λ _ _=>rfl)|14],(by with_unfolding_all rfl)|15]|32]|27]),%[%[(@dh _ _ _ _)|13]|10],(@ay _)|17]|10],(by intros;rfl)|21],%[%[(@lW _ _ _ _ _ _ _ _ (bI hr.units) %[(["_law_cell", "_law_one", "_law_other", "_law_here", "_law_there", "!_law_cell"]),(1),(aQ (aa dm) ["_law_one", "_law_other", "_law_here", "_law_there", "_law_cell"] rfl rfl nofun),rfl,%[%[bL,%[3|0],%[0|2],(λ _ _=>rfl)|14]|18],(λ C s₀ H₀ ex pn=>%[(0),_,(show List.Nodup (["_law_cell", "_law_one", "_law_other", "_law_here", "_law_there", "!_law_cell"]:List Str) from by decide +kernel),rfl,(Or.inl rfl),%[0|7]|19]),(λ C s₀ H₀ ex pn=>(@hV _ _ _ %[uY,%[0|0],%[bL,%[3|0],%[0|2],(λ _ _=>rfl)|14],(by with_unfolding_all rfl)|15])),(λ C s₀ H₀ ex pn=>%[0|0]),(by intros;rfl)|28] %[(@aH _)|12] (aw _))|13]|10]|9]|9]|9],?_⟩;rw [show au ["_law_one", "_law_other", "_law_here", "_law_there", "_law_cell"] [.ref d,.ref d']=[some (.ref d),some (.ref d'),none,none,none] from rfl];clear G__law_touched;exists k;have l1:(ai f1 A1).length<=16:=by have:=bx f1 A1 λ a ha=>(hd.2.1.axes.2 a ha).1;have:=hd.2.1.pr;omega
  have l2:(ai f2 A2).length<=16:=by have:=bx f2 A2 λ a ha=>(hd.2.2.1.axes.2 a ha).1;have:=hd.2.2.1.pr;omega
  have l3:(ai g1 B1).length<=16:=by have:=bx g1 B1 λ a ha=>(hd'.2.1.axes.2 a ha).1;have:=hd'.2.1.pr;omega
  have l4:(ai g2 B2).length<=16:=by have:=bx g2 B2 λ a ha=>(hd'.2.2.1.axes.2 a ha).1;have:=hd'.2.2.1.pr;omega
  ac_rfl;rw [jN];refine⟨room,w1,f1,A1,f2,A2,hd,λ r1 H1 e1 t1=>?_⟩;ac_rfl;rw [jN];refine⟨room,w2,g1,B1,g2,B2,hd'.ext e1,λ r2 H2 e2 t2=>?_⟩;have wl1:=AX w1 (ai f1 A1) (ai f2 A2);have wl2:=AX w2 (ai g1 B1) (ai g2 B2);obtain⟨a1,b1,u1,u2,u3⟩:=t1.ext e2;obtain⟨a2,b2,v1,v2,v3⟩:=t2;have e02:=e1.trans e2;unfold ClC at k;generalize WrC w1 (ai f1 A1) (ai f2 A2)=W1 at *;generalize RdC w1 (ai f1 A1) (ai f2 A2)=R1 at *;generalize WrC w2 (ai g1 B1) (ai g2 B2)=W2 at *;generalize RdC w2 (ai g1 B1) (ai g2 B2)=R2 at *;have hW1:W1.length<=32:=by omega
  have hW2:W2.length<=32:=by omega
  have fl1:=jz W2;have fl2:=jz R2;have fl3:=jz R1;clear t1 hd hd' e1 e2 wl1 wl2 l1 l2 l3 l4;ac_rfl;refine aZ (xs:=W1.map V.int) (λ i σ H'=>∃ v4:Option V,σ=[some (.ref d),some (.ref d'),some (.ref r1),some (.ref r2),v4]/\H'=H2/\∀ c∈W1.take i,¬ (c∈W2\/c∈R2)) ⟨none,rfl,rfl,λ c hc=>absurd hc (by rw [N2];exact MK)⟩ (λ i σ H' _ ⟨_,_,e,_⟩=>e ▸ u2) ?_ ?_
  ·rintro i y _ _ hi ⟨v4,rfl,rfl,hno⟩;rename_i H2;rw [Mq] at hi;obtain⟨c,hic,rfl⟩:=Mg.mp hi;have hcm:=Mu hic;have i1:=mL c W2;have i2:=mL c R2;have flc:gh (V.int c)=true:=rfl
   by_cases m1:c∈W2
   ·have k2:=k () true H2 e02 ⟨λ _=>.inl ⟨c,hcm,MJ _ m1⟩,λ _=>rfl⟩;rw [MW m1] at i1;clear k hno hi hic i2 m1 hcm;simp! only [↓aD]
   ·by_cases m2:c∈R2
    ·have k2:=k () true H2 e02 ⟨λ _=>.inl ⟨c,hcm,Me _ m2⟩,λ _=>rfl⟩;rw [MB m1] at i1;rw [MW m2] at i2;clear k hno hi hic m1 m2 hcm;simp! only [↓aD]
    ·have hn2:∀ z∈W1.take (i+1),¬ (z∈W2\/z∈R2):=λ z hz=>by
      rw [M7,hic] at hz
      rcases MA.mp hz with hz|hz
      ·exact hno z hz
      ·have:z=c:=by simpa using hz
       rw [this];exact λ q=>q.elim m1 m2
     rw [MB m1] at i1;rw [MB m2] at i2;exists hn2;clear k hno hi hic m1 m2 hcm;simp! only [↓aD]
     first|exact⟨_,rfl,rfl,hn2 ()⟩|exact⟨_,rfl,hn2 ()⟩
  ·rintro _ _ ⟨v4,rfl,rfl,hno⟩;rename_i H2;rw [Md,MX] at hno;exists hno;have wk:=nH (K:=K) v2;clear fl1 fl2;ac_rfl;refine bQ (W2.map V.int) (inC R1) (λ z=>z) (λ z x H'=>x=z/\H' a2=some (.lst (W2.map V.int))) wk.1 wk.2 (aC (by rw [Md];omega)) ?_ ?_
   ·intro D z x H' N1 N0 hz hD e ⟨hx,_⟩ k1 k0;obtain⟨c,hc,rfl⟩:=MM.mp hz;subst hx;have u1':=e.at u1;have u3':=e.at u3;have i3:=mL c R1;have flc:gh (V.int c)=true:=rfl
    by_cases m:c∈R1
    ·have k1':N1 (.int c) H':=k1 (MW m) H' (Ext.refl _);rw [MW m] at i3;clear k1 k0 hz hc m k hno wk u1 u2 u3 v1 v2 v3;simp! only [↓aF,↓aK]
    ·have k0':N0 H':=k0 (MB m) H' (Ext.refl _);rw [MB m] at i3;clear k1 k0 hz hc m k hno wk u1 u2 u3 v1 v2 v3;simp! only [↓aF,↓aK]
   ·intro D H3 hD e3 h3;have h3':H3 D=some (.lst ((W2.filter λ c=>decide (c∈R1)).map V.int)):=by rw [h3,List.filter_map,NG];rfl
    have hF:(W2.filter λ c=>decide (c∈R1)) ≠ [] ↔ MtP W2 R1:=by
     constructor
     ·intro h;obtain⟨c,hc⟩:=List.exists_mem_of_ne_nil _ h;obtain⟨h1,h2⟩:=Np.mp hc;exact⟨c,h1,of_decide_eq_true h2⟩
     ·rintro ⟨c,h1,h2⟩ h;have:c∈(W2.filter λ c=>decide (c∈R1)):=Np.mpr ⟨h1,MW h2⟩;rw [h] at this;cases this
    generalize (W2.filter λ c=>decide (c∈R1))=F at *;have hl1:¬ MtP W1 (W2++R2):=λ ⟨c,h1,h2⟩=>hno () c h1 (MA.mp h2);exists hF;exists hl1;clear h3 wk hno hD
    cases F with
    | nil=>
     have kf:=λ (_:Unit) H4 e4=>k () false H4 e4 ⟨(λ h=>by cases h),λ h=>h.elim (λ q=>absurd q (hl1 ())) λ q=>absurd ((hF ()).mpr q) (by simp)⟩;clear k hF hl1;ac_rfl;intro n4 H4 _ e4 h4;have h3_4:=e4.at h3';have k2:=kf () H4 (e02.trans (e3.trans e4));clear kf h3';ac_rfl
    | cons c0 F=>
     have kf:=λ (_:Unit) H4 e4=>k () true H4 e4 ⟨λ _=>.inr ((hF ()).mp (by simp)),λ _=>rfl⟩;clear k hF hl1;ac_rfl;intro n4 H4 _ e4 h4;have h3_4:=e4.at h3';have k2:=kf () H4 (e02.trans (e3.trans e4));clear kf h3';ac_rfl
theorem jv{xs:List V}{i:Int}{k:V->Prop}(P:V->Prop)(h0:0<=i)(h1:i < xs.length)(ha:∀ v∈xs,P v)(hk:∀ v,P v->k v):aX (atI xs i) k:=CP h0 h1 λ v hv=>hk v (ha v hv)
theorem Al.cons'{α:Type}{R:α->V->Prop}{z:α}{y:V}{zs:List α}{ys:List V}(r:R z y)(h:Al R zs ys):Al R (z::zs) (y::ys):=⟨by simp [h.1],λ i z' y' a b=>by
 cases i with
 | zero=>cases a;cases b;exact r
 | succ n=>exact h.2 n z' y' (by simpa using a) (by simpa using b)⟩
abbrev Vz:=Addr × Int × List (Int × Int)
def VsZ(H:Hp)(room:Int)(r:Addr)(zs:List Vz):Prop:=∀ z∈zs,SmV room z.2.1 z.2.2/\∃ l,l ≠ r/\H z.1=some (.tup [.int z.2.1,.ref l])/\aB H l (axL z.2.2)
theorem VsZ.ext{H H':Hp}{room:Int}{r:Addr}{zs:List Vz}(h:VsZ H room r zs)(e:Ext H H'):VsZ H' room r zs:=λ z hz=>by
 obtain⟨h1,l,h2,h3,h4⟩:=h z hz;exact⟨h1,l,h2,e.at h3,h4.ext e⟩
theorem aB.up{H:Hp}{l r:Addr}{zs:List (List Int)}{xs:List V}{o:HO}(h:aB H l zs)(hne:l ≠ r)(hr:H r=some (.lst xs)):aB (upd H r o) l zs:=by
 obtain⟨ys,h1,h2⟩:=h;exact⟨ys,by rw [ae hne];exact h1,h2.imp λ _ _ t=>t.upd hr⟩
theorem VsZ.upd{H:Hp}{room:Int}{r:Addr}{zs:List Vz}{xs:List V}{o:HO}(h:VsZ H room r zs)(hr:H r=some (.lst xs)):VsZ (upd H r o) room r zs:=λ z hz=>by
 obtain⟨h1,l,h2,h3,h4⟩:=h z hz;exact⟨h1,l,h2,by rw [ae (λ e=>by rw [e,hr] at h3;cases h3)];exact h3,aB.up h4 h2 hr⟩
theorem VsZ.dv{H:Hp}{room:Int}{r:Addr}{zs:List Vz}(h:VsZ H room r zs){z:Vz}(hz:z∈zs):DvA H z.1 z.2.1 z.2.2/\SmV room z.2.1 z.2.2:=by
 obtain⟨h1,l,_,h3,h4⟩:=h z hz;exact⟨⟨l,h3,h4⟩,h1⟩
structure AxD(A:List (Int × Int)):Prop where
 len:A.length<=2
 sz:∀ a∈A,(1<=a.1/\a.1<=4)/\(-5<=a.2/\a.2<=5)
 pr:ak (A.map λ a=>a.1)<=16
 sp:bg A - ba A<=18
 lo:ba A<=0
 hi:0<=bg A
theorem rB{s p:Int}(h:1<=s/\s<=4)(hp:-3<=p/\p<=5):max 0 ((s - 1) * p) - min 0 ((s - 1) * p)<=15:=by
 have hs:s=1\/s=2\/s=3\/s=4:=by omega
 rcases hs with rfl|rfl|rfl|rfl
 ·show max 0 (0 * p) - min 0 (0 * p)<=15;omega
 ·show max 0 (1 * p) - min 0 (1 * p)<=15;omega
 ·show max 0 (2 * p) - min 0 (2 * p)<=15;omega
 ·show max 0 (3 * p) - min 0 (3 * p)<=15;omega
theorem EH{s p:Int}(h:1<=s/\s<=4)(hp:-3<=p/\p<=5):AxD [(s,p)]:=by
 have e1:ba [(s,p)]=min 0 ((s - 1) * p):=by show min 0 ((s - 1) * p)+0=_;omega
 have e2:bg [(s,p)]=max 0 ((s - 1) * p):=by show max 0 ((s - 1) * p)+0=_;omega
 have:=rB h hp;refine⟨by simp,λ a ha=>?_,?_,by rw [e1,e2];omega,by rw [e1];omega,by rw [e2];omega⟩
 ·rw [Mh.mp ha];exact⟨h,by show -5<=p/\p<=5;omega⟩
 ·show ak [s]<=16
  have:ak [s]=s:=by simp [ak]
  omega
theorem EG{s p q:Int}(h:1<=s/\s<=4)(hp:-3<=p/\p<=5)(hq:-3<=q/\q<=3):AxD [(2,q),(s,p)]:=by
 have e1:ba [(2,q),(s,p)]=min 0 ((2 - 1) * q)+min 0 ((s - 1) * p):=by show min 0 ((2 - 1) * q)+(min 0 ((s - 1) * p)+0)=_;omega
 have e2:bg [(2,q),(s,p)]=max 0 ((2 - 1) * q)+max 0 ((s - 1) * p):=by show max 0 ((2 - 1) * q)+(max 0 ((s - 1) * p)+0)=_;omega
 have:=rB h hp;refine⟨by simp,λ a ha=>?_,?_,by rw [e1,e2];omega,by rw [e1];omega,by rw [e2];omega⟩
 ·rcases ML.mp ha with rfl|ha
  ·exact⟨by show (1:Int)<=2/\(2:Int)<=4;omega,by show -5<=q/\q<=5;omega⟩
  ·rw [Mh.mp ha];exact⟨h,by show -5<=p/\p<=5;omega⟩
 ·show ak [2,s]<=16
  have:ak [2,s]=2 * s:=by simp [ak]
  omega
def SoI(H H':Hp)(room:Int)(r:Addr)(n:Nat):Prop:=Ext H H'/\∃ zs:List Vz,H' r=some (.lst (zs.map λ z=>V.ref z.1))/\zs.length=n/\VsZ H' room r zs
abbrev oR(K:PySem.W.Frag)(a:Addr)(ns:List Int)(s:Addr)(i:Int)(room:Int)(H:Hp)(Q:VK)(E:XK):Prop:=s=a/\SqL K H a (ns.map V.int)/\ns.length<=63/\0<=i/\i<=60/\20<=room/\room<=60/\∀ (r:Addr) (H':Hp),SoI H H' room r 4->Q (.ref r) H'
def pP(K:W.Frag)(a:Addr)(ns:List Int):Sp:=λ vs H Q E=>∃ (s:Addr) (i:Int) (room:Int),vs=[.ref s,.int i,.int room]/\(oR K a ns s i room H Q E)
theorem yp(K:W.Frag)(a:Addr)(ns:List Int)(s:Addr)(i:Int)(room:Int)(H:Hp)(Q:VK)(E:XK):pP K a ns [.ref s,.int i,.int room] H Q E=(oR K a ns s i room H Q E):=yD (f:=λ (s:Addr) (i:Int) (room:Int)=>[.ref s,.int i,.int room]) (λ _ _ _ _ _ _ h=>by cases h;exact⟨rfl,rfl,rfl⟩) s i room
theorem xM(K:W.Frag)(a:Addr)(ns:List Int){vs:List V}{H:Hp}{Q:VK}{E:XK}(h:pP K a ns vs H Q E):vs.length=3:=yE h λ _ _ _=>rfl
theorem o1(T:Tx K mg t)(a:Addr)(ns:List Int):aW P w K mg base CX0 2 t.a__law_some t.d__law_some ["_law_script", "_law_at", "_law_room"] (pP K a ns):=by
 have G__law_draw:=%[fB|41] a ns;refine T.F__law_some.ok aS (λ vs H Q E h=>xM _ _ _ h) (λ cdv A' outer s H vs Q E hr h=>?_)
 ·obtain⟨_,i0,room,rfl,rfl,hS,hl,hi0,hi1,hr0,hr1,k⟩:=h;rename_i a;refine⟨_,%[%[3,aS,%[(@aH _)|12]|4],%[%[Mt,rfl,%[∅,T.z_range,%[%[0|2]|1],∅|33],%[4,aS|5],%[%[5,aS,%[_law_draw,%[%[0|0],%[%[bB,%[1|0],%[4|0]|11],%[%[uZ,%[0|2],%[0|2]|11]|1]|1]|1]|3]|4],%[%[6,aS,%[bB,%[0|2],%[gH,%[5|0],%[0|2]|11]|11]|4],%[%[7,aS,%[bL,%[%[%[0|2],%[%[0|2],%[%[0|2],%[%[0|2],%[%[0|2],%[(@uw _ _ _ _ _ _ jd %[0|2]),%[(@uw _ _ _ _ _ _ jd %[0|2]),%[(@uw _ _ _ _ _ _ jd %[0|2])|1]|1]|1]|1]|1]|1]|1]|1]|12],%[gH,%[gm,%[5|0],%[0|2]|11],%[0|2]|11],(λ _ _=>rfl)|14]|4],%[%[8,aS,%[%[%[%[%[6|0],%[%[7|0]|1]|1]|22]|1]|12]|4],%[%[%[(iA hr.units),%[gH,%[gm,%[5|0],%[0|2]|11],%[0|2]|11],%[0|2],(aw _)|15],%[%[8,aS,%[dF,%[%[%[%[%[0|2],%[%[fV,%[gH,%[gm,%[5|0],%[0|2]|11],%[0|2]|11],%[0|2]|11]|1]|1]|22]|1]|12],%[8|0]|11]|4]|10],(@ay _)|17],%[%[9,aS,%[sum,(gQ rfl),%[%[(["_law_one", "_law_script", "_law_at", "_law_room", "_law_views", "_law_k", "_law_cell", "_law_size", "_law_pace", "_law_axes", "_law_low", "_law_high"]),(1),(aQ (aa cX) ["_law_script", "_law_at", "_law_room", "_law_views", "_law_k", "_law_cell", "_law_size", "_law_pace", "_law_axes", "_law_low", "_law_high"] rfl rfl nofun),rfl,%[%[8|0]|18],(λ C s₀ H₀ ex pn=>%[(0),_,(show List.Nodup (["_law_one", "_law_script", "_law_at", "_law_room", "_law_views", "_law_k", "_law_cell", "_law_size", "_law_pace", "_law_axes", "_law_low", "_law_high"]:List Str) from by decide +kernel),rfl,(Or.inl rfl),%[0|7]|19]),(λ C s₀ H₀ ex pn=>(@bF _)),(λ C s₀ H₀ ex pn=>%[min,(oy rfl),%[%[0|2],%[%[fW,%[bL,%[0|0],%[0|2],(λ _ _=>rfl)|14],%[fV,%[bL,%[0|0],%[0|2],(λ _ _=>rfl)|14],%[0|2]|11]|11]|1]|1]|6]),(by intros;rfl)|28]|1]|6]|4],%[%[10,aS,%[sum,(gQ rfl),%[%[(["_law_one", "_law_script", "_law_at", "_law_room", "_law_views", "_law_k", "_law_cell", "_law_size", "_law_pace", "_law_axes", "_law_low", "_law_high"]),(1),(aQ (aa cX) ["_law_script", "_law_at", "_law_room", "_law_views", "_law_k", "_law_cell", "_law_size", "_law_pace", "_law_axes", "_law_low", "_law_high"] rfl rfl nofun),rfl,%[%[8|0]|18],(λ C s₀ H₀ ex pn=>%[(0),_,(show List.Nodup (["_law_one", "_law_script", "_law_at", "_law_room", "_law_views", "_law_k", "_law_cell", "_law_size", "_law_pace", "_law_axes", "_law_low", "_law_high"]:List Str) from by decide +kernel),rfl,(Or.inl rfl),%[0|7]|19]),(λ C s₀ H₀ ex pn=>(@bF _)),(λ C s₀ H₀ ex pn=>%[max,(oz rfl),%[%[0|2],%[%[fW,%[bL,%[0|0],%[0|2],(λ _ _=>rfl)|14],%[fV,%[bL,%[0|0],%[0|2],(λ _ _=>rfl)|14],%[0|2]|11]|11]|1]|1]|6]),(by intros;rfl)|28]|1]|6]|4],%[%[%[Mo,MI,MH,bo,%[3|0],%[%[%[%[fV,%[gH,%[gm,%[5|0],%[0|2]|11],%[bB,%[fV,%[2|0],%[10|0]|11],%[9|0]|11]|11],%[9|0]|11],%[%[8|0]|1]|1]|22]|1],∅,∅,∅,∅,∅|30],∅|16]|10]|9]|9]|9]|9]|9]|9]|9],(by intros;rfl)|21],%[%[%[3|0]|13]|10]|9]|9],?_⟩;rw [show au ["_law_script", "_law_at", "_law_room", "_law_views", "_law_k", "_law_cell", "_law_size", "_law_pace", "_law_axes", "_law_low", "_law_high"] [.ref a,.int i0,.int room]=[some (.ref a),some (.int i0),some (.int room),none,none,none,none,none,none,none,none] from rfl];clear G__law_draw;exists k;ac_rfl;intro r H1 hr1' e1 h1;have ini:SoI H H1 room r 0:=⟨e1,[],h1,rfl,λ z hz=>absurd hz MK⟩;clear h1 e1;ac_rfl;refine ia (λ j σ H'=>∃ v5 v6 v7 v8 v9 v10 v11:Option V,σ=[some (.ref a),some (.int i0),some (.int room),some (.ref r),v5,v6,v7,v8,v9,v10,v11]/\SoI H H' room r j) ⟨none,none,none,none,none,none,none,rfl,ini⟩ ?_ ?_
  ·clear ini k;rintro j _ H2 hj ⟨v5,v6,v7,v8,v9,v10,v11,rfl,e2,zs,h2,hzl,vz⟩;have hj4:j < 4:=hj;have hS2:=e2.2 K a _ hS;exists vz;clear hj;simp! only [↓aD];rw [bR];refine⟨hS2,hl,⟨by omega,by omega⟩,by decide,λ c c0 c1=>?_⟩;ac_rfl;intro l3 H3 _ e3 h3;ac_rfl;refine jv (λ v=>∃ p:Int,v=.int p/\-3<=p/\p<=5) %[0|8] (by show _ < (8:Int);omega) (λ v hv=>?_) λ v hv=>?_
   ·simp only [ML,MK,N8] at hv
    rcases hv with rfl|rfl|rfl|rfl|rfl|rfl|rfl|rfl<;>exact⟨_,rfl,by decide,by decide⟩
   obtain⟨pc,rfl,pc0,pc1⟩:=hv;clear h3;obtain⟨sz,hsz⟩:∃ sz,1+c % 4=sz:=⟨_,rfl⟩;have hs1:1<=sz/\sz<=4:=by omega
   ac_rfl;intro t4 H4 _ e4 h4;ac_rfl;intro l5 H5 hl5 e5 h5;have tA:aB H5 l5 (axL [(sz,pc)]):=⟨_,h5,Al.cons' ⟨t4,rfl,e5.at h4⟩ Al.nil⟩;have e25:=e3.trans (e4.trans e5);have nl5:l5 ≠ r:=λ e=>by rw [e] at hl5;rw [(e3.trans e4).at h2] at hl5;cases hl5
   exists tA;clear h4 hsz e3 e4 e5 hl5;simp! only [-Bo];refine Ie (λ σ' H'=>∃ (l:Addr) (A:List (Int × Int)),σ'=[some (.ref a),some (.int i0),some (.int room),some (.ref r),some (.int (0+(j:Int))),some (.int c),some (.int sz),some (.int pc),some (.ref l),v10,v11]/\Ext H5 H'/\l ≠ r/\aB H' l (axL A)/\AxD A) (λ nx' hn=>?_) ?_
   ·exists hn
    by_cases hb:c / 32 % 2=1
    ·ac_rfl;intro t6 H6 _ e6 h6;ac_rfl;intro l7 H7 _ e7 h7;have h5_7:=(e6.trans e7).at h5;refine er h7 h5_7 (aC (by simp)) ?_;intro l8 H8 hl8 e8 h8;have e58:=e6.trans (e7.trans e8);have nl8:l8 ≠ r:=λ e=>by rw [e] at hl8;rw [(e25.trans (e6.trans e7)).at h2] at hl8;cases hl8
     have h4_8:∃ ys,H8 l8=some (.lst (.ref t6::ys))/\Al (qJ H8) (axL [(sz,pc)]) ys:=by
      obtain⟨ys,hy,al⟩:=tA ();rw [h5] at hy;cases hy;exact⟨_,h8,al.imp λ _ _ t=>t.ext e58⟩
     obtain⟨ys,hy,al⟩:=h4_8;have tB:aB H8 l8 (axL [(2,c / 64 % 7 - 3),(sz,pc)]):=⟨_,hy,Al.cons' ⟨t6,rfl,(e7.trans e8).at h6⟩ al⟩;exists tB;clear h6 h7 h5_7 h8 hl8 al hy e6 e7 e8;ac_rfl;exact hn () _ _ ⟨l8,_,rfl,e58,nl8,tB (),EG hs1 ⟨pc0,pc1⟩ ⟨by omega,by omega⟩⟩
    ·ac_rfl;exact hn () _ _ ⟨l5,_,rfl,Ext.refl _,nl5,tA (),EH hs1 ⟨pc0,pc1⟩⟩
   clear tA h5;rintro _ H6 ⟨l,A,rfl,e6,nl,⟨ys,hy,al⟩,ad⟩;have e26:=e25.trans e6;have a2:=ad.len;have asz:=λ (_:Unit)=>ad.sz;have wk:=lO (K:=K) (R:=axP) (λ _ _ _ _ h e=>h.ext e) hy (kW al);exists al;ac_rfl;refine bQ A (λ _=>true) (λ a=>.int (min 0 ((a.1 - 1) * a.2))) axP wk.1 wk.2 (aC %[0|8]) ?_ ?_
   ·intro D2 z x H7 M1 M0 hz hD2 e7 ⟨aq,hx,haq⟩ k2 _;subst hx;have k2':M1 (.int (min 0 ((z.1 - 1) * z.2))) H7:=k2 rfl H7 (Ext.refl _);have hzs:=asz () z hz;have cm:uf z.2 (z.1 - 1):=.inr ⟨by omega,by omega⟩;rw [K7,Int.mul_comm] at k2';clear k2 hz wk;simp! only [↓aF,↓aK]
   intro D7 H7 hD7 e7 h7;have h7':H7 D7=some (.lst ((A.map λ a=>min 0 ((a.1 - 1) * a.2)).map V.int)):=by rw [h7,ud,NG];rfl
   have hsum:(A.map λ a=>min 0 ((a.1 - 1) * a.2)).sum=ba A:=rfl;have hy7:=e7.at hy;have wk7:=lO (K:=K) (R:=axP) (λ _ _ _ _ h e=>h.ext e) hy7 ((kW (al ())).imp λ _ _ t=>axP.ext t e7);clear h7 hD7 wk hy;ac_rfl;clear hsum h7';refine bQ A (λ _=>true) (λ a=>.int (max 0 ((a.1 - 1) * a.2))) axP wk7.1 wk7.2 (aC %[0|8]) ?_ ?_
   ·intro D2 z x H8 M1 M0 hz hD2 e8 ⟨aq,hx,haq⟩ k2 _;subst hx;have k2':M1 (.int (max 0 ((z.1 - 1) * z.2))) H8:=k2 rfl H8 (Ext.refl _);have hzs:=asz () z hz;have cm:uf z.2 (z.1 - 1):=.inr ⟨by omega,by omega⟩;rw [K8,Int.mul_comm] at k2';clear k2 hz wk7;simp! only [↓aF,↓aK]
   intro D8 H8 hD8 e8 h8;have h8':H8 D8=some (.lst ((A.map λ a=>max 0 ((a.1 - 1) * a.2)).map V.int)):=by rw [h8,ud,NG];rfl
   have hsum:(A.map λ a=>max 0 ((a.1 - 1) * a.2)).sum=bg A:=rfl;have e68:=e7.trans e8;have e28:=e26.trans e68;have h2_8:=e28.at h2;have tA8:aB H8 l (axL A):=⟨ys,e8.at hy7,(al ()).imp λ _ _ t=>t.ext e68⟩;have ap:=ad.sp;have a3:=ad.lo;have a4:=ad.hi;have apr:=ad.pr;have hm:0 < room - bg A+ba A:=by omega
   exists tA8;clear h8 hD8 wk7 hy7;ac_rfl;clear hsum h8';intro t9 H9 _ e9 h9;have h2_9:=e9.at h2_8;have q1:=Ol (c / 1000) (show room - bg A+ba A ≠ 0 by omega);have q2:=N5 (c / 1000) hm;have sv:SmV room (c / 1000 % (room - bg A+ba A) - ba A) A:=⟨a2,asz (),apr,by omega,by omega⟩
   have fin:SoI H (upd H9 r (.lst ((zs.map λ z=>V.ref z.1)++[.ref t9]))) room r (j+1):=by
    refine⟨(e2.trans (e28.trans e9)).put hr1',zs++[(t9,c / 1000 % (room - bg A+ba A) - ba A,A)],by rw [Nc];exact ag,by rw [Ml,hzl];rfl,λ z hz=>?_⟩
    rcases MA.mp hz with hz|hz
    ·exact(((vz ()).ext (e28.trans e9)).upd h2_9) z hz
    ·rw [Mh.mp hz];exact⟨sv,l,nl,by show upd H9 r _ t9=_;rw [ae (λ e=>by rw [e,h2_9] at h9;cases h9)];exact h9,aB.up ((tA8 ()).ext e9) nl h2_9⟩
   have hlim:zs.length < sizeLine:=Br %[0|8];have hlim2:j < sizeLine:=Br %[0|8];clear sv q1 q2 tA8 h9 h2_8 vz;ac_rfl
   first|exact⟨_,_,_,_,_,_,_,rfl,fin⟩|exact⟨_,_,_,_,_,_,_,rfl⟩
  ·rintro _ H2 ⟨v5,v6,v7,v8,v9,v10,v11,rfl,so⟩;have so4:SoI H H2 room r 4:=so;have k2:=k () r H2 so4;clear k so so4;ac_rfl
abbrev Dd:=Addr × Nat × Vz × Vz
def DrD(zs:List Vz)(H:Hp)(d:Dd)(y:V):Prop:=y=.ref d.1/\d.2.1 < 5/\d.2.2.1∈zs/\d.2.2.2∈zs/\ak (d.2.2.1.2.2.map λ a=>a.1)=ak (d.2.2.2.2.2.map λ a=>a.1)/\∃ x,H d.1=some (.tup [.int (d.2.1:Int),.ref d.2.2.1.1,.ref d.2.2.2.1,.int x])
theorem DrD.ext{zs:List Vz}{H H':Hp}{d:Dd}{y:V}(h:DrD zs H d y)(e:Ext H H'):DrD zs H' d y:=by
 obtain⟨h1,h2,h3,h4,h5,x,h6⟩:=h;exact⟨h1,h2,h3,h4,h5,x,e.at h6⟩
theorem DrD.upd{zs:List Vz}{H:Hp}{d:Dd}{y:V}{r:Addr}{xs:List V}{o:HO}(h:DrD zs H d y)(hr:H r=some (.lst xs)):DrD zs (upd H r o) d y:=by
 obtain⟨h1,h2,h3,h4,h5,x,h6⟩:=h;exact⟨h1,h2,h3,h4,h5,x,by rw [ae (λ e=>by rw [e,hr] at h6;cases h6)];exact h6⟩
theorem DrD.a{zs:List Vz}{H:Hp}{room:Int}{r:Addr}{d:Dd}{y:V}(h:DrD zs H d y)(vz:VsZ H room r zs):DrA H d.1 room d.2.1 d.2.2.1.2.1 d.2.2.1.2.2 d.2.2.2.2.1 d.2.2.2.2.2:=by
 obtain⟨_,h2,h3,h4,h5,x,h6⟩:=h;exact⟨h2,(vz.dv h3).2,(vz.dv h4).2,h5,_,_,x,h6,(vz.dv h3).1,(vz.dv h4).1⟩
abbrev lJ  (p:Addr) (c:Int) (H:Hp) (Q:VK) (E:XK):Prop:=∃ (room:Int) (r0:Addr) (zs:List Vz),H p=some (.lst (zs.map λ z=>V.ref z.1))/\VsZ H room r0 zs/\zs.length=4/\0<=c/\∀ (d:Dd) (H':Hp),Ext H H'->DrD zs H' d (.ref d.1)->Q (.ref d.1) H'
def mC  : Sp:=λ vs H Q E=>∃ (p:Addr) (c:Int),vs=[.ref p,.int c]/\(lJ  p c H Q E)
theorem tY  (p:Addr) (c:Int) (H:Hp) (Q:VK) (E:XK):mC  [.ref p,.int c] H Q E=(lJ  p c H Q E):=ug (f:=λ (p:Addr) (c:Int)=>[.ref p,.int c]) (λ _ _ _ _ h=>by cases h;exact⟨rfl,rfl⟩) p c
theorem tK  {vs:List V}{H:Hp}{Q:VK}{E:XK}(h:mC  vs H Q E):vs.length=2:=uh h λ _ _=>rfl
theorem mU(T:Tx K mg t):aW P w K mg base CX0 2 t.a__law_drawn t.d__law_drawn ["_law_views", "_law_cell"] mC:=by
 have G__law_count:=%[mV|41];refine T.F__law_drawn.ok dB (λ vs H Q E h=>tK h) (λ cdv A' outer s H vs Q E hr h=>?_)
 ·obtain⟨p,c,rfl,room,r0,zs,hp,vz,hz4,hc0,k⟩:=h;refine⟨_,%[(@dX _ _ (2) _ _ _ _ dB.nd rfl (Or.inr rfl) %[bL,%[0|0],%[gH,%[gm,%[1|0],%[0|2]|11],%[len,aL,%[%[0|0]|1]|6]|11],(λ _ _=>rfl)|14] ∅ %[0|7]),%[%[(["_law_other", "_law_views", "_law_cell", "_law_one", "_law_same", "!_law_other"]),(1),(3),_,dB.nd,rfl,(Or.inl rfl),(aQ (aa dk) ["_law_views", "_law_cell", "_law_one", "_law_same", "_law_other"] rfl rfl nofun),rfl,%[%[0|0]|18],(λ C s₀ H₀ ex pn=>%[(0),_,(show List.Nodup (["_law_other", "_law_views", "_law_cell", "_law_one", "_law_same", "!_law_other"]:List Str) from by decide +kernel),rfl,(Or.inl rfl),%[0|7]|19]),(λ C s₀ H₀ ex pn=>(@hV _ _ _ %[(iA hr.units),%[_law_count,%[%[0|0]|1]|3],%[_law_count,%[%[3|0]|1]|3],(aw _)|15])),(λ C s₀ H₀ ex pn=>%[0|0]),∅,(by intros;rfl),%[0|7]|38],%[%[4,dB,%[bL,%[3|0],%[gH,%[gm,%[1|0],%[0|2]|11],%[len,aL,%[%[3|0]|1]|6]|11],(λ _ _=>rfl)|14]|4],%[%[%[%[%[gH,%[1|0],%[0|2]|11],%[%[2|0],%[%[4|0],%[%[gH,%[gm,%[1|0],%[0|2]|11],%[0|2]|11]|1]|1]|1]|1]|22]|13]|10]|9]|9]|9],?_⟩;rw [show au ["_law_views", "_law_cell", "_law_one", "_law_same", "_law_other"] [.ref p,.int c]=[some (.ref p),some (.int c),none,none,none] from rfl];clear G__law_count;exists k;exists vz;have hz4':0 < (zs.length:Int):=by omega
  ac_rfl;refine jv (λ v=>∃ z∈zs,v=.ref z.1) %[0|8] (by rw [Md];omega) (λ v hv=>?_) λ v hv=>?_
  ·obtain⟨z,hz,rfl⟩:=MM.mp hv;exact⟨z,hz,rfl⟩
  obtain⟨z1,hz1,rfl⟩:=hv;obtain⟨dv1,sv1⟩:=(vz ()).dv hz1
  have al:Al (λ (z:Vz) y=>y=V.ref z.1/\z∈zs) zs (zs.map λ z=>V.ref z.1):=⟨by rw [Md],λ i z y hz hy=>by
   rw [Mq,hz] at hy;cases hy;exact⟨rfl,Mu hz⟩⟩
  have wk:=lO (K:=K) (R:=λ (z:Vz) y _=>y=V.ref z.1/\z∈zs) (λ _ _ _ _ h e=>h) hp al;clear al;ac_rfl;refine bQ zs (λ z=>decide (ak (z.2.2.map λ a=>a.1)=ak (z1.2.2.map λ a=>a.1))) (λ z=>.ref z.1) (λ z y H'=>y=V.ref z.1/\z∈zs) wk.1 wk.2 (aC %[0|8]) ?_ ?_
  ·intro D z y H' N1 N0 hz hD e ⟨hy,_⟩ k1 k0;subst hy;obtain⟨dv,sv⟩:=(vz ()).dv hz;have dvE:=dv.ext e;have dv1E:=dv1.ext e;clear hz wk k;simp! only [↓aF,↓aK];rw [lA];refine⟨z.2.1,room,z.2.2,dvE,sv,?_⟩;simp! only [↓aF,↓aK];rw [lA];refine⟨z1.2.1,room,z1.2.2,dv1E,sv1,?_⟩
   by_cases hpe:ak (z.2.2.map λ a=>a.1)=ak (z1.2.2.map λ a=>a.1)
   ·have k1':N1 (.ref z.1) H':=k1 (MW hpe) H' (Ext.refl _);clear k1 k0;simp! only [↓aF,↓aK]
   ·have k0':N0 H':=k0 (MB hpe) H' (Ext.refl _);clear k1 k0;simp! only [↓aF,↓aK]
  intro D1 H1 hD1 e1 h1;have hne:z1∈zs.filter λ z=>decide (ak (z.2.2.map λ a=>a.1)=ak (z1.2.2.map λ a=>a.1)):=Np.mpr ⟨hz1,MW rfl⟩;have hall:∀ z∈zs.filter (λ z=>decide (ak (z.2.2.map λ a=>a.1)=ak (z1.2.2.map λ a=>a.1))),z∈zs/\ak (z.2.2.map λ a=>a.1)=ak (z1.2.2.map λ a=>a.1):=λ z hz=>⟨(Np.mp hz).1,of_decide_eq_true (Np.mp hz).2⟩;generalize (zs.filter λ z=>decide (ak (z.2.2.map λ a=>a.1)=ak (z1.2.2.map λ a=>a.1)))=F at *
  have hFl:0 < (F.length:Int):=by
   cases F with
   | nil=>cases hne
   | cons a b=>rw [Nw];omega
  exists hall;clear wk hD1 hne;ac_rfl;refine jv (λ v=>∃ z∈F,v=.ref z.1) (Ol _ %[0|8]) (by rw [Md];exact N5 _ hFl) (λ v hv=>?_) λ v hv=>?_
  ·obtain⟨z,hz,rfl⟩:=MM.mp hv;exact⟨z,hz,rfl⟩
  obtain⟨z2,hz2,rfl⟩:=hv;obtain⟨hz2m,hpe⟩:=hall () z2 hz2;obtain⟨dv2,sv2⟩:=(vz ()).dv hz2m;obtain⟨w',hw'⟩:∃ w':Nat,c % 5=(w':Int):=⟨(c % 5).toNat,by omega⟩;have hw5:w' < 5:=by omega
  clear hz2 hall;ac_rfl;intro d H2 _ e2 h2;exact k () (d,w',z1,z2) H2 (e1.trans e2) ⟨rfl,hw5,hz1,hz2m,hpe.symm,_,h2⟩
theorem SmV.vok{room f:Int}{A:List (Int × Int)}(h:SmV room f A)(h1:1<=room)(h2:room<=1000000):ja room f A:=by
 obtain⟨s1,s2⟩:=nW A λ a ha=>(h.axes.2 a ha).1;have:=h.lo;have:=h.hi;exact⟨h.axes,h1,by omega,by rw [s1];omega,by rw [s2];omega⟩
theorem at3{x0 x1 x2:Addr}{w:Nat}(h2:2<=w)(hw:w < 5):∃ x,atI [V.ref x0,V.ref x1,V.ref x2] ((w:Int) - 2)=some (.ref x)/\((w=2/\x=x0)\/(w=3/\x=x1)\/(w=4/\x=x2)):=by
 match w,h2,hw with
 | 2,_,_=>exact⟨x0,bA (j:=0) rfl,.inl ⟨rfl,rfl⟩⟩
 | 3,_,_=>exact⟨x1,bA (j:=1) rfl,.inr (.inl ⟨rfl,rfl⟩)⟩
 | 4,_,_=>exact⟨x2,bA (j:=2) rfl,.inr (.inr ⟨rfl,rfl⟩)⟩
def VwF(C:Addr)(H0 H:Hp)(x:Addr)(room:Int)(cs:List Int):Prop:=∃ f A dx l,H x=some (.ins C dx (cR room f l))/\H0 l=none/\aB H l (axL A)/\fF A/\ak (A.map λ a=>a.1)<=4096/\ai f A=cs
theorem VwF.ext{C:Addr}{H0 H H':Hp}{x:Addr}{room:Int}{cs:List Int}(h:VwF C H0 H x room cs)(e:Ext H H'):VwF C H0 H' x room cs:=by
 obtain⟨f,A,dx,l,h1,h2,h3,h4⟩:=h;exact⟨f,A,dx,l,e.at h1,h2,h3.ext e,h4⟩
def VwZ(C:Addr)(z:Addr)(H:Hp)(x:Addr)(room:Int)(cs:List Int):Prop:=∃ f A dx l,H x=some (.ins C dx (cR room f l))/\l ≠ z/\aB H l (axL A)/\fF A/\ak (A.map λ a=>a.1)<=4096/\ai f A=cs
theorem VwF.z{C:Addr}{H0 H:Hp}{x z:Addr}{room:Int}{cs:List Int}{o:HO}(h:VwF C H0 H x room cs)(hz:H0 z=some o):VwZ C z H x room cs:=by
 obtain⟨f,A,dx,l,h1,h2,h3⟩:=h;exact⟨f,A,dx,l,h1,(λ e=>by rw [e,hz] at h2;cases h2),h3⟩
theorem VwZ.ext{C z:Addr}{H H':Hp}{x:Addr}{room:Int}{cs:List Int}(h:VwZ C z H x room cs)(e:Ext H H'):VwZ C z H' x room cs:=by
 obtain⟨f,A,dx,l,h1,h2,h3,h4⟩:=h;exact⟨f,A,dx,l,e.at h1,h2,h3.ext e,h4⟩
theorem VwZ.upd{C z:Addr}{H:Hp}{x:Addr}{room:Int}{cs:List Int}{xs:List V}{o:HO}(h:VwZ C z H x room cs)(hz:H z=some (.lst xs)):VwZ C z (upd H z o) x room cs:=by
 obtain⟨f,A,dx,l,h1,h2,h3,h4⟩:=h;exact⟨f,A,dx,l,by rw [ae (λ e=>by rw [e,hz] at h1;cases h1)];exact h1,h2,aB.up h3 h2 hz,h4⟩
theorem VwZ.c{C z:Addr}{H:Hp}{x:Addr}{room:Int}{cs:List Int}(h:VwZ C z H x room cs):VwC C H x room cs:=by
 obtain⟨f,A,dx,l,h1,_,h3,h4⟩:=h;exact⟨f,A,⟨dx,l,h1,h3⟩,h4⟩
def StF(t:Adr)(H0 H:Hp)(s:Addr)(w:Nat)(room:Int)(a b:List Int):Prop:=∃ u v,um t H s w u v/\(1<=w->VwF t.a_View H0 H u room a)/\(2<=w->VwF t.a_View H0 H v room b)
def StZ(t:Adr)(z:Addr)(H:Hp)(s:Addr)(w:Nat)(room:Int)(a b:List Int):Prop:=∃ u v,um t H s w u v/\(1<=w->VwZ t.a_View z H u room a)/\(2<=w->VwZ t.a_View z H v room b)
theorem StF.z{t:Adr}{H0 H:Hp}{s z:Addr}{w:Nat}{room:Int}{a b:List Int}{o:HO}(h:StF t H0 H s w room a b)(hz:H0 z=some o):StZ t z H s w room a b:=by
 obtain⟨u,v,h1,h2,h3⟩:=h;exact⟨u,v,h1,λ q=>(h2 q).z hz,λ q=>(h3 q).z hz⟩
theorem StZ.ext{t:Adr}{z:Addr}{H H':Hp}{s:Addr}{w:Nat}{room:Int}{a b:List Int}(h:StZ t z H s w room a b)(e:Ext H H'):StZ t z H' s w room a b:=by
 obtain⟨u,v,h1,h2,h3⟩:=h;exact⟨u,v,h1.ext e,λ q=>(h2 q).ext e,λ q=>(h3 q).ext e⟩
theorem StZ.upd{t:Adr}{z:Addr}{H:Hp}{s:Addr}{w:Nat}{room:Int}{a b:List Int}{xs:List V}{o:HO}(h:StZ t z H s w room a b)(hz:H z=some (.lst xs)):StZ t z (upd H z o) s w room a b:=by
 obtain⟨u,v,⟨h0,dx,x,h1⟩,h2,h3⟩:=h;exact⟨u,v,⟨h0,dx,x,by rw [ae (λ e=>by rw [e,hz] at h1;cases h1)];exact h1⟩,λ q=>(h2 q).upd hz,λ q=>(h3 q).upd hz⟩
theorem StZ.v{t:Adr}{z:Addr}{H:Hp}{s:Addr}{w:Nat}{room:Int}{a b:List Int}(h:StZ t z H s w room a b):StV t H s w room a b:=by
 obtain⟨u,v,h1,h2,h3⟩:=h;exact⟨u,v,h1,λ q=>(h2 q).c,λ q=>(h3 q).c⟩
theorem SmV.vwf{C:Addr}{H0 H:Hp}{x dx l:Addr}{room f:Int}{A:List (Int × Int)}(h:SmV room f A)(hx:H x=some (.ins C dx (cR room f l)))(hl:H0 l=none)(tt:aB H l (axL (A.map aU))):VwF C H0 H x room (ai f A):=⟨f,_,dx,l,hx,hl,tt,h.axes.kept,by rw [ef];have:=h.pr;omega,lj f A λ a ha=>(h.axes.2 a ha).1⟩
def pR(t:Adr):Sp:=λ vs H Q E=>∃ (d:Addr) (room:Int),vs=[.ref d,.int room]/\(∃ (w:Nat) (f1:Int) (A1:List (Int × Int)) (f2:Int) (A2:List (Int × Int)),DrA H d room w f1 A1 f2 A2/\1<=room/\room<=1000000/\∀ (s:Addr) (H':Hp),Ext H H'->StF t H H' s w room (ai f1 A1) (ai f2 A2)->Q (.ref s) H')
theorem yr(t:Adr)(d:Addr)(room:Int)(H:Hp)(Q:VK)(E:XK):pR t [.ref d,.int room] H Q E=(∃ (w:Nat) (f1:Int) (A1:List (Int × Int)) (f2:Int) (A2:List (Int × Int)),DrA H d room w f1 A1 f2 A2/\1<=room/\room<=1000000/\∀ (s:Addr) (H':Hp),Ext H H'->StF t H H' s w room (ai f1 A1) (ai f2 A2)->Q (.ref s) H'):=ug (f:=λ (d:Addr) (room:Int)=>[.ref d,.int room]) (λ _ _ _ _ h=>by cases h;exact⟨rfl,rfl⟩) d room
theorem xO(t:Adr){vs:List V}{H:Hp}{Q:VK}{E:XK}(h:pR t vs H Q E):vs.length=2:=uh h λ _ _=>rfl
theorem o2(T:Tx K mg t):aW P w K mg base CX0 8 t.a__law_made t.d__law_made ["_law_drawn_here", "_law_room"] (pR t):=by
 have G_View___init__:=%[cG|41];have G_Fill___init__:=%[cH|41];have G_Copy___init__:=%[iO|41];have G_Swap___init__:=%[iN|41];have G_Raise___init__:=%[ix|41];refine T.F__law_made.ok bG (λ vs H Q E h=>xO _ h) (λ cdv A' outer s H vs Q E hr h=>?_)
 ·obtain⟨d,room,rfl,w',f1,A1,f2,A2,⟨hw,s1,s2,hpe,p1,p2,x,hd,⟨l1,hp1,t1⟩,⟨l2,hp2,t2⟩⟩,hr1,hr2,k⟩:=h;refine⟨_,%[(@Bd _ _ _ _ _ _ %[0|0] (%[(4),rfl,%[%[2,bG|5],%[%[3,bG|5],%[%[4,bG|5],%[%[5,bG|5],(@bw _),∅|20],∅|20],∅|20],∅|20],∅,∅|31].mono λ _ _ _ _ h=>dY h) ∅ ∅ ∅),%[%[6,bG,%[T.mk_View,G_View___init__,(hr.mono ⋯),∅,T.m_View,T.b_View___init__,.nil,bu,%[%[1|0],%[%[bL,%[3|0],%[0|2],(λ _ _=>rfl)|14],%[(@gN _ _ _ _ _ _ _ _ _ iu ∅ T.z_list nofun %[%[bL,%[3|0],%[0|2],(λ _ _=>rfl)|14]|1] ⋯ ⋯ ∅ ∅)|1]|1]|1],⋯,∅,∅|25]|4],%[%[7,bG,%[T.mk_View,G_View___init__,(hr.mono ⋯),∅,T.m_View,T.b_View___init__,.nil,bu,%[%[1|0],%[%[bL,%[4|0],%[0|2],(λ _ _=>rfl)|14],%[(@gN _ _ _ _ _ _ _ _ _ iu ∅ T.z_list nofun %[%[bL,%[4|0],%[0|2],(λ _ _=>rfl)|14]|1] ⋯ ⋯ ∅ ∅)|1]|1]|1],⋯,∅,∅|25]|4],%[%[%[(iA hr.units),%[2|0],%[0|2],(aw _)|15],%[%[(@hZ _ _ _ _ _ T.mk0_Statement ∅ T.m_Statement ⋯)|13]|10],(@ay _)|17],%[%[%[(iA hr.units),%[2|0],%[0|2],(aw _)|15],%[%[%[T.mk_Fill,G_Fill___init__,(hr.mono ⋯),∅,T.m_Fill,T.b_Fill___init__,.nil,bu,%[%[6|0],%[%[5|0]|1]|1],⋯,∅,∅|25]|13]|10],(@ay _)|17],%[%[%[bL,%[%[%[T.mk_Copy,G_Copy___init__,(hr.mono ⋯),∅,T.m_Copy,T.b_Copy___init__,.nil,bu,%[%[6|0],%[%[7|0]|1]|1],⋯,∅,∅|25],%[%[T.mk_Swap,G_Swap___init__,(hr.mono ⋯),∅,T.m_Swap,T.b_Swap___init__,.nil,bu,%[%[6|0],%[%[7|0]|1]|1],⋯,∅,∅|25],%[%[T.mk_Raise,G_Raise___init__,(hr.mono ⋯),∅,T.m_Raise,T.b_Raise___init__,.nil,bu,%[%[6|0],%[%[7|0]|1]|1],⋯,∅,∅|25]|1]|1]|1]|12],%[fV,%[2|0],%[0|2]|11],(λ _ _=>rfl)|14]|13]|10]|9]|9]|9]|9]|9],?_⟩;rw [show au ["_law_drawn_here", "_law_room", "_law_way", "_law_one", "_law_other", "_law_value", "_law_to", "_law_source"] [.ref d,.int room]=[some (.ref d),some (.int room),none,none,none,none,none,none] from rfl];clear G_View___init__ G_Fill___init__ G_Copy___init__ G_Swap___init__ G_Raise___init__;exists k;have vA:=s1.vok hr1 hr2;have vB:=s2.vok hr1 hr2;obtain⟨y1,hl1,al1⟩:=t1;obtain⟨y2,hl2,al2⟩:=t2;exists al1;exists al2;ac_rfl;intro q6 H6 _ e6 h6;have tt6:aB H6 q6 (axL A1):=⟨y1,h6,(al1 ()).imp λ _ _ t=>t.ext e6⟩;have hp2_6:=e6.at hp2;have hl2_6:=e6.at hl2;clear hd hp1 hp2 hl1 hl2;ac_rfl;intro u dx1 G1 hx1 hdx1 hne1 g1 k1 k1';rw [bU];refine⟨dx1,A1,k1,aB.ext tt6 g1,vA,λ G2 D2 g2' hD2 hx2 tt2=>?_⟩;have eg:=g2' H6 g1 hx1;have vo1:aA t.a_View G2 u room f1 (A1.map aU):=⟨dx1,D2,hx2,tt2⟩;have vf1:=s1.vwf (H0:=H) hx2 ((e6.trans g1).free hD2) tt2;exists vf1;have hp2_7:=eg.at hp2_6;have hl2_7:=eg.at hl2_6;have e07:=e6.trans eg;clear h6 tt6 hp2_6 hl2_6 k1 k1' hx1 hdx1 hne1 g1 g2' hD2 hx2 tt2 eg e6;ac_rfl;intro q8 G3 _ e8 h8;have tt8:aB G3 q8 (axL A2):=⟨y2,h8,(al2 ()).imp λ _ _ t=>t.ext (e07.trans e8)⟩;clear hp2_7 hl2_7;ac_rfl;intro v dx2 G4 hx2 hdx2 hne2 g4 k4 k4';rw [bU];refine⟨dx2,A2,k4,aB.ext tt8 g4,vB,λ G5 D5' g5' hD5 hx5 tt5=>?_⟩;have eg2:=e8.trans (g5' G3 g4 hx2);have vo2:aA t.a_View G5 v room f2 (A2.map aU):=⟨dx2,D5',hx5,tt5⟩;have w2:=s2.vwf (H0:=H) hx5 ((e07.trans (e8.trans g4)).free hD5) tt5;have w1:=(vf1 ()).ext eg2;have vo1':=vo1.ext eg2;have e05:=e07.trans eg2;clear h8 tt8 k4 k4' hx2 hdx2 hne2 g4 g5' hD5 hx5 tt5 vo1 e07 e8 eg2;have hpe':ak ((A1.map aU).map λ a=>a.1)=ak ((A2.map aU).map λ a=>a.1):=by rw [ef,ef];exact hpe
  have xA:=s1.axes.kept;have xB:=s2.axes.kept;exists w1;exists w2;exists hpe';clear hpe
  by_cases hw0:w'=0
  ·subst hw0;ac_rfl;intro sx dx G6 _ _ _ e6 h6 _;have kf:=k () sx G6 (e05.trans e6) ⟨u,v,⟨by decide,dx,.non,h6⟩,λ h=>absurd h ⋯,λ h=>absurd h ⋯⟩;clear k;ac_rfl
  by_cases hw1:w'=1
  ·subst hw1;ac_rfl;intro sx dx G6 hx6 _ _ g6 k6 _;rw [cA];refine⟨dx,k6,λ G7 g7' h7=>?_⟩;have e67:=g7' G5 g6 hx6;have kf:=k () sx G7 (e05.trans e67) ⟨u,v,⟨by decide,dx,.int x,h7⟩,λ _=>(w1 ()).ext e67,λ h=>absurd h ⋯⟩;clear k;ac_rfl
  have hwi0:¬ (w':Int)=0:=by omega
  have hwi1:¬ (w':Int)=1:=by omega
  ac_rfl;intro sa da Ga hxa _ _ ga ka _;rw [pj];refine⟨da,room,f1,f2,_,_,ka,vo1'.ext ga,vo2.ext ga,xA,xB,hpe' (),λ Gb gb' hb=>?_⟩;have e1:=gb' G5 ga hxa;clear ka hxa ga gb';ac_rfl;intro sb db Gc hxb _ _ gc kc _;rw [pe];refine⟨db,room,f1,f2,_,_,kc,vo1'.ext (e1.trans gc),vo2.ext (e1.trans gc),xA,xB,hpe' (),λ Gd gd' hd=>?_⟩;have e2:=gd' Gb gc hxb;have ha2:=e2.at hb;clear kc hxb gc gd' hb;ac_rfl;intro sc dc Ge hxc _ _ ge ke _;rw [nr];refine⟨dc,room,f1,f2,_,_,ke,vo1'.ext (e1.trans (e2.trans ge)),vo2.ext (e1.trans (e2.trans ge)),xA,xB,hpe' (),λ Gf gf' hf=>?_⟩;have e3:=gf' Gd ge hxc;have ha3:=e3.at ha2;have hb3:=e3.at hd;have e13:=e1.trans (e2.trans e3);clear ke hxc ge gf' ha2 hd;ac_rfl;intro L H8 _ e8 h8;obtain⟨sx,hat,hsx⟩:=at3 (x0:=sa) (x1:=sb) (x2:=sc) (by omega:2<=w') hw;have e58:=e13.trans e8
  have st:StF t H H8 sx w' room (ai f1 A1) (ai f2 A2):=by
   refine⟨u,v,?_,λ _=>(w1 ()).ext e58,λ _=>(w2 ()).ext e58⟩
   rcases hsx with ⟨rfl,rfl⟩|⟨rfl,rfl⟩|⟨rfl,rfl⟩
   ·exact⟨hw,da,.non,e8.at ha3⟩
   ·exact⟨hw,db,.non,e8.at hb3⟩
   ·exact⟨hw,dc,.non,e8.at hf⟩
  have kf:=k () sx H8 (e05.trans e58) st;clear k st hsx ha3 hb3 hf;ac_rfl
abbrev Sd:=Nat × Int × List Int × List Int
def ClD(d d':Sd):Prop:=ClC d.1 d.2.2.1 d.2.2.2 d'.1 d'.2.2.1 d'.2.2.2
def atD(ds:List Sd)(k:Nat):Sd:=ds.getD k (0,0,[],[])
def iy(S:List Addr)(H:Hp):Hp:=λ b=>if b∈S then none else H b
theorem vX(S:List Addr)(H:Hp):Ext (iy S H) H:=kB.ext λ b o h=>by
 unfold iy at h
 by_cases hb:b∈S
 ·rw [My hb] at h;cases h
 ·rwa [Mw hb] at h
theorem mf{S:List Addr}{H:Hp}{b:Addr}(h:b∈S):iy S H b=none:=My h
theorem vf{S:List Addr}{H:Hp}{b:Addr}{o:HO}(hb:b ∉ S)(h:H b=some o):iy S H b=some o:=by
 unfold iy;rw [if_neg hb];exact h
theorem BE{S:List Addr}{H0 H:Hp}(e:Ext H0 H)(hS:∀ b∈S,H0 b=none):Ext H0 (iy S H):=kB.ext λ b o h=>vf (λ hb=>by rw [hS b hb] at h;cases h) (e.at h)
def StR(t:Adr)(H:Hp)(room:Int)(d:Sd)(s:Addr):Prop:=StV t H s d.1 room d.2.2.1 d.2.2.2
theorem StR.ext{t:Adr}{H H':Hp}{room:Int}{d:Sd}{s:Addr}(h:StR t H room d s)(e:Ext H H'):StR t H' room d s:=StV.ext h e
theorem StR.v{t:Adr}{H:Hp}{room:Int}{d:Sd}{s:Addr}(h:StR t H room d s):StV t H s d.1 room d.2.2.1 d.2.2.2:=h
theorem StV.cells{t:Adr}{H:Hp}{s:Addr}{w:Nat}{room:Int}{a b:List Int}(h:StV t H s w room a b):∃ u v,um t H s w u v/\VwL t.a_View H room (r8 t.a_View H) (wrs w u v)/\VwL t.a_View H room (r8 t.a_View H) (rds w u v)/\(wrs w u v).flatMap (r8 t.a_View H)=WrC w a b/\(rds w u v).flatMap (r8 t.a_View H)=RdC w a b:=by
 obtain⟨u,v,p1,p2,p3⟩:=h
 have all:∀ x∈wrs w u v++rds w u v,VwC t.a_View H x room (r8 t.a_View H x):=λ x hx=>by
  rcases uJ hx with ⟨hw,rfl⟩|⟨hw,rfl⟩
  ·exact(p2 hw).cel.2
  ·exact(p3 hw).cel.2
 obtain⟨m1,m2⟩:=FF (r8 t.a_View H) w u v;obtain⟨m3,m4⟩:=FE (w:=w) (λ q=>(p2 q).cel.1) (λ q=>(p3 q).cel.1);exact⟨u,v,p1,λ x hx=>all x (MJ _ hx),λ x hx=>all x (Me _ hx),by rw [m1,m3],by rw [m2,m4]⟩
def StY(t:Adr)(H:Hp)(room:Int)(d:Sd)(y:V):Prop:=∃ s,y=.ref s/\StR t H room d s
theorem StY.ext{t:Adr}{H H':Hp}{room:Int}{d:Sd}{y:V}(h:StY t H room d y)(e:Ext H H'):StY t H' room d y:=by
 obtain⟨s,h1,h2⟩:=h;exact⟨s,h1,h2.ext e⟩
def StL(t:Adr)(H:Hp)(room:Int)(p:Addr)(ds:List Sd):Prop:=∃ ys,H p=some (.lst ys)/\Al (StY t H room) ds ys
theorem StL.ext{t:Adr}{H H':Hp}{room:Int}{p:Addr}{ds:List Sd}(h:StL t H room p ds)(e:Ext H H'):StL t H' room p ds:=by
 obtain⟨ys,h1,h2⟩:=h;exact⟨ys,e.at h1,h2.imp λ _ _ q=>q.ext e⟩
theorem Ij{ds:List Sd}{k:Nat}{d:Sd}(h:ds[k]? = some d):atD ds k=d:=by unfold atD;rw [getD_eq_getElem?_getD,h];rfl
def RsI(t:Adr)(H H':Hp)(room:Int)(v:Addr)(n:Nat):Prop:=∃ xs:List Addr,Ext H H'/\H' v=some (.lst (xs.map V.ref))/\xs.length<=n/\∀ x∈xs,∃ cs,VwC t.a_View H x room cs
abbrev rV(t:Adr)(p:Addr)(H:Hp)(Q:VK)(E:XK):Prop:=∃ (room:Int) (ds:List Sd),StL t H room p ds/\ds.length<=60/\∀ H',Ext H H'->Q .non H'
def uO(t:Adr):Sp:=λ vs H Q E=>∃ (p:Addr),vs=[.ref p]/\(rV t p H Q E)
theorem rQ(t:Adr)(p:Addr)(H:Hp)(Q:VK)(E:XK):uO t [.ref p] H Q E=(rV t p H Q E):=g9 (f:=λ (p:Addr)=>[.ref p]) (λ _ _ h=>by cases h;exact rfl) p
theorem Ah(t:Adr){vs:List V}{H:Hp}{Q:VK}{E:XK}(h:uO t vs H Q E):vs.length=1:=gb h λ _=>rfl
theorem cI(T:Tx K mg t):aW P w K mg base CX0 5 t.a_refuse_statements t.d_refuse_statements ["statements"] (uO t):=by
 have G_views_of:=%[jG|41];have G_refuse_views:=%[jX|41];refine T.F_refuse_statements.ok aG (λ vs H Q E h=>Ah _ h) (λ c A o s H vs Q E hr h=>?_)
 ·obtain⟨p,rfl,room,ds,⟨ys,hp,al⟩,hl,k⟩:=h;refine⟨_,%[%[%[pF,%[len,aL,%[%[0|0]|1]|6],(@cS _ _ (.int 60) _ _ ∅ T.m_MOST_STATEMENTS.choose_spec ⟨_,rfl⟩ ⋯),(aw _)|15],%[(@fJ _ _)|10],(@ay _)|17],%[%[1,aG,%[(@aH _)|12]|4],%[%[Mt,rfl,%[%[0|0]|18],%[2,aG|5],%[%[%[Mo,Nv,Nu,fg,%[1|0],%[%[views_of,%[%[2|0]|1]|3]|1],∅,∅,∅,∅,∅|30],∅|16]|10],(by intros;rfl)|21],%[%[%[refuse_views,%[%[1|0]|1]|3],∅|16]|10]|9]|9]|9],?_⟩;rw [show au ["statements", "views", "statement"] [.ref p]=[some (.ref p),none,none] from rfl];clear G_views_of G_refuse_views;exists k;exists al;have hyl:ys.length<=60:=by rw [(al ()).1];exact hl
  have hlt:¬ (60:Int) < (ys.length:Int):=by omega
  ac_rfl;intro v H1 hv e1 h1;have ini:RsI t H H1 room v (4 * 0):=⟨[],e1,h1,MC _,λ x hx=>by cases hx⟩;have hp1:=e1.at hp;clear h1 e1;ac_rfl;refine aZ (xs:=ys) (λ i σ H'=>∃ v2:Option V,σ=[some (.ref p),some (.ref v),v2]/\RsI t H H' room v (4 * i)) ⟨none,rfl,ini⟩ (λ i σ H' _ ⟨_,_,_,e,_⟩=>e.at hp) ?_ ?_
  ·clear ini hp1;rintro i y _ H2 hi ⟨v2,rfl,xs,e2,h2,hxl,hx⟩;obtain⟨d,hd⟩:∃ d,ds[i]? = some d:=⟨_,L8 (by rw [←(al ()).1];exact(L9.mp hi).1)⟩;obtain⟨s,rfl,hs⟩:=(al ()).2 i d y hd hi;have hil:i < 60:=by have:=(L9.mp hi).1;omega
   obtain⟨u,w',hs1,hs2,hs3⟩:=hs.v;have hx':=λ (_:Unit)=>hx;have wl:=qK d.1 u w';clear hi hd hx;simp! only [↓aD];rw [jM];refine⟨d.1,u,w',hs1.ext e2,λ r H3 e3 h3=>?_⟩;have h2_3:=e3.at h2;have e03:=e2.trans e3;have hlen:(xs++(wrs d.1 u w'++rds d.1 u w')).length<=4 * (i+1):=by rw [Ml,Ml];omega
   have fin:RsI t H (upd H3 v (.lst ((xs++(wrs d.1 u w'++rds d.1 u w')).map V.ref))) room v (4 * (i+1)):=by
    refine⟨_,e03.put hv,ag,hlen,λ x hx=>?_⟩
    rcases MA.mp hx with hx|hx
    ·exact hx' () x hx
    ·rcases uJ hx with ⟨hw,rfl⟩|⟨hw,rfl⟩
     ·exact⟨_,hs2 hw⟩
     ·exact⟨_,hs3 hw⟩
   have hlim:(xs.map V.ref).length+((wrs d.1 u w'++rds d.1 u w').map V.ref).length<=sizeLine:=aC (by rw [Md,Md,Ml];omega);rw [Nc] at fin;generalize (wrs d.1 u w'++rds d.1 u w').map V.ref=ws at *;generalize xs.map V.ref=xv at *;clear hx' e3 e2 h2;simp! only [↓aD];exact⟨_,rfl⟩
  ·rintro _ H2 ⟨v2,rfl,xs,e2,h2,hxl,hx⟩;exists hx;ac_rfl;rw [tU];refine⟨xs,room,r8 t.a_View H,h2,λ x hx'=>?_,λ H3 e3=>?_⟩
   ·obtain⟨cs,hc⟩:=hx () x hx';exact hc.cel.2.ext e2
   ·have k2:=k () H3 (e2.trans e3);clear k;ac_rfl
def aE(fs:List (Nat × Option Nat))(k:Nat):Nat:=(fs.getD k (0,none)).1
def kA(fs:List (Nat × Option Nat))(k:Nat):Option Nat:=(fs.getD k (0,none)).2
def Tch(d:Sd):List Int:=WrC d.1 d.2.2.1 d.2.2.2++RdC d.1 d.2.2.1 d.2.2.2
def WrD(d:Sd):List Int:=WrC d.1 d.2.2.1 d.2.2.2
def RdD(d:Sd):List Int:=RdC d.1 d.2.2.1 d.2.2.2
def MxI(lev:Nat->Nat)(T:Int->Nat->Prop)(tc:List (Int × Int)):Prop:=(∀ c j,bf tc c=some j->∃ k:Nat,j=(k:Int)/\T c k/\∀ i,T c i->lev i<=lev k)/\∀ c i,T c i->∃ j,bf tc c=some j
theorem MxI.iff{lev:Nat->Nat}{T T':Int->Nat->Prop}{tc:List (Int × Int)}(h:MxI lev T tc)(e:∀ c k,T c k ↔ T' c k):MxI lev T' tc:=by
 refine⟨λ c j hj=>?_,λ c i hi=>h.2 c i ((e c i).mpr hi)⟩;obtain⟨k,h1,h2,h3⟩:=h.1 c j hj;exact⟨k,h1,(e c k).mp h2,λ i hi=>h3 i ((e c i).mpr hi)⟩
theorem MxI.put{lev:Nat->Nat}{T:Int->Nat->Prop}{tc:List (Int × Int)}(h:MxI lev T tc)(c0:Int)(n:Nat)(hn:∀ i,T c0 i->lev i<=lev n):MxI lev (λ c k=>T c k\/(k=n/\c=c0)) (ku tc c0 n):=by
 refine⟨λ c j hj=>?_,λ c i hi=>?_⟩
 ·rw [rH] at hj
  by_cases hc:c=c0
  ·rw [My hc] at hj;cases hj;refine⟨n,rfl,.inr ⟨rfl,hc⟩,λ i hi=>?_⟩
   rcases hi with hi|⟨rfl,_⟩
   ·exact hn i (hc ▸ hi)
   ·exact Mb _
  ·rw [Mw hc] at hj;obtain⟨k,h1,h2,h3⟩:=h.1 c j hj;refine⟨k,h1,.inl h2,λ i hi=>?_⟩
   rcases hi with hi|⟨_,hi⟩
   ·exact h3 i hi
   ·exact absurd hi hc
 ·rw [rH]
  by_cases hc:c=c0
  ·exact⟨n,My hc⟩
  ·rw [Mw hc]
   rcases hi with hi|⟨_,hi⟩
   ·exact h.2 c i hi
   ·exact absurd hi hc
theorem MxI.skip{lev:Nat->Nat}{T:Int->Nat->Prop}{tc:List (Int × Int)}(h:MxI lev T tc)(c0:Int)(n:Nat){j:Int}(hj:bf tc c0=some j)(hn:lev n<=lev j.toNat):MxI lev (λ c k=>T c k\/(k=n/\c=c0)) tc:=by
 refine⟨λ c j' hj'=>?_,λ c i hi=>?_⟩
 ·obtain⟨k,h1,h2,h3⟩:=h.1 c j' hj';refine⟨k,h1,.inl h2,λ i hi=>?_⟩
  rcases hi with hi|⟨rfl,rfl⟩
  ·exact h3 i hi
  ·rw [hj] at hj';cases hj';rw [h1] at hn;exact hn
 ·rcases hi with hi|⟨_,rfl⟩
  ·exact h.2 c i hi
  ·exact⟨j,hj⟩
structure DlP(ds:List Sd)(fs:List (Nat × Option Nat)):Prop where
 up:∀ k,k < fs.length->∀ i,i < k->ClD (atD ds i) (atD ds k)->aE fs i < aE fs k
 bef:∀ k,k < fs.length->(kA fs k=none->aE fs k=0)/\∀ j,kA fs k=some j->j < k/\ClD (atD ds j) (atD ds k)/\aE fs k=aE fs j+1
 lt:∀ k,k < fs.length->aE fs k<=k
theorem cx{fs:List (Nat × Option Nat)}{x:Nat × Option Nat}{k:Nat}(h:k < fs.length):aE (fs++[x]) k=aE fs k/\kA (fs++[x]) k=kA fs k:=by
 unfold aE kA;rw [getD_eq_getElem?_getD,getD_eq_getElem?_getD,getElem?_append_left h];exact⟨rfl,rfl⟩
theorem mK(fs:List (Nat × Option Nat))(x:Nat × Option Nat):aE (fs++[x]) fs.length=x.1/\kA (fs++[x]) fs.length=x.2:=by
 unfold aE kA;rw [getD_eq_getElem?_getD,getElem?_append_right (Nat.le_refl _),Nat.sub_self];exact⟨rfl,rfl⟩
theorem DlP.step{ds:List Sd}{fs:List (Nat × Option Nat)}{a:Nat}{b:Option Nat}(h:DlP ds fs)(h1:∀ i,i < fs.length->ClD (atD ds i) (atD ds fs.length)->aE fs i < a)(h2:b=none->a=0)(h3:∀ j,b=some j->j < fs.length/\ClD (atD ds j) (atD ds fs.length)/\a=aE fs j+1):DlP ds (fs++[(a,b)]):=by
 have nw:=mK fs (a,b)
 have cs:∀ k,k < (fs++[(a,b)]).length->k < fs.length\/k=fs.length:=λ k hk=>by
  rw [Ml,Mv] at hk;omega
 refine⟨λ k hk i hi hc=>?_,λ k hk=>?_,λ k hk=>?_⟩
 ·rcases cs k hk with hk|rfl
  ·rw [(cx hk).1,(cx (Ny hi hk)).1];exact h.up k hk i hi hc
  ·rw [nw.1,(cx hi).1];exact h1 i hi hc
 ·rcases cs k hk with hk|rfl
  ·rw [(cx hk).1,(cx hk).2];refine⟨(h.bef k hk).1,λ j hj=>?_⟩;obtain⟨q1,q2,q3⟩:=(h.bef k hk).2 j hj;exact⟨q1,q2,by rw [(cx (Ny q1 hk)).1];exact q3⟩
  ·rw [nw.1,nw.2];refine⟨h2,λ j hj=>?_⟩;obtain⟨q1,q2,q3⟩:=h3 j hj;exact⟨q1,q2,by rw [(cx q1).1];exact q3⟩
 ·rcases cs k hk with hk|rfl
  ·rw [(cx hk).1];exact h.lt k hk
  ·rw [nw.1]
   cases hb:b with
   | none=>rw [h2 hb];exact MC _
   | some j=>
    obtain⟨q1,_,q3⟩:=h3 j hb;have:=h.lt j q1;omega
def uj:Option Nat->V
 | none=>.non
 | some j=>.int (j:Int)
def FnT(H:Hp)(f:Nat × Option Nat)(y:V):Prop:=∃ q,y=.ref q/\H q=some (.tup [.int (f.1:Int),uj f.2])
theorem FnT.ext{H H':Hp}{f:Nat × Option Nat}{y:V}(h:FnT H f y)(e:Ext H H'):FnT H' f y:=by
 obtain⟨q,h1,h2⟩:=h;exact⟨q,h1,e.at h2⟩
theorem FN{ds:List Sd}{fs:List (Nat × Option Nat)}{tc wr:List (Int × Int)}{rs:List Int}{n:Nat}(hn:fs.length=n)(mt:MxI (aE fs) (λ c k=>k < n/\c∈Tch (atD ds k)) tc)(mw:MxI (aE fs) (λ c k=>k < n/\c∈WrD (atD ds k)) wr)
  (hr:∀ r,r∈rs ↔ (∃ c∈WrD (atD ds n),bf tc c=some r)\/∃ c∈RdD (atD ds n),bf wr c=some r):(∀ r∈rs,∃ k:Nat,r=(k:Int)/\k < n/\ClD (atD ds k) (atD ds n))/\∀ i,i < n->ClD (atD ds i) (atD ds n)->∃ r∈rs,aE fs i<=aE fs r.toNat:=by
 refine⟨λ r h=>?_,λ i hi hc=>?_⟩
 ·rcases (hr r).mp h with ⟨c,hc,hl⟩|⟨c,hc,hl⟩
  ·obtain⟨k,rfl,⟨hk,ht⟩,_⟩:=mt.1 c r hl;refine⟨k,rfl,hk,?_⟩
   rcases MA.mp ht with q|q
   ·exact .inl ⟨c,q,MJ _ hc⟩
   ·exact .inr ⟨c,hc,q⟩
  ·obtain⟨k,rfl,⟨hk,ht⟩,_⟩:=mw.1 c r hl;exact⟨k,rfl,hk,.inl ⟨c,ht,Me _ hc⟩⟩
 ·have viaT:∀ c,c∈Tch (atD ds i)->c∈WrD (atD ds n)->∃ r∈rs,aE fs i<=aE fs r.toNat:=λ c h1 h2=>by
   obtain⟨j,hj⟩:=mt.2 c i ⟨hi,h1⟩;obtain⟨k,rfl,_,hk⟩:=mt.1 c j hj;exact⟨_,(hr _).mpr (.inl ⟨c,h2,hj⟩),hk i ⟨hi,h1⟩⟩
  rcases hc with ⟨c,h1,h2⟩|⟨c,h1,h2⟩
  ·rcases MA.mp h2 with q|q
   ·exact viaT c (MJ _ h1) q
   ·obtain⟨j,hj⟩:=mw.2 c i ⟨hi,h1⟩;obtain⟨k,rfl,_,hk⟩:=mw.1 c j hj;exact⟨_,(hr _).mpr (.inr ⟨c,q,hj⟩),hk i ⟨hi,h1⟩⟩
  ·exact viaT c (Me _ h2) h1
theorem iJ{n:Nat}(h:n<=5000000):n < sizeLine:=Nat.lt_of_le_of_lt h ⋯
theorem vp{ks:List Int}{z:Key × V}(h:z∈bM ks):∃ c:Int,c∈ks/\z=(.inl c,.bl true):=by
 obtain⟨c,hc,rfl⟩:=MM.mp h;exact⟨c,hc,rfl⟩
def Iz(z:Key × V):Int:=match z.1 with
 | .inl c=>c
 | _=>0
def JA(tc:List (Int × Int))(z:Key × V):Bool:=(bf tc (Iz z)).isSome
def EV(tc:List (Int × Int))(z:Key × V):V:=.int ((bf tc (Iz z)).getD 0)
def iS(tc:List (Int × Int))(ks:List Int):List Int:=(ks.filter λ c=>(bf tc c).isSome).map λ c=>(bf tc c).getD 0
theorem rh(tc:List (Int × Int))(ks:List Int):((bM ks).filter (JA tc)).map (EV tc)=(iS tc ks).map V.int:=by
 unfold iS bM;rw [List.filter_map,map_map,map_map];rfl
theorem vw{tc:List (Int × Int)}{ks S:List Int}(hk:∀ c,c∈ks ↔ c∈S)(r:Int):r∈iS tc ks ↔ ∃ c∈S,bf tc c=some r:=by
 unfold iS;rw [List.mem_map];constructor
 ·rintro ⟨c,hc,rfl⟩;obtain⟨h1,h2⟩:=Np.mp hc;obtain⟨j,hj⟩:=NZ.mp h2;exact⟨c,(hk c).mp h1,by rw [hj];rfl⟩
 ·rintro ⟨c,hc,hj⟩;exact⟨c,Np.mpr ⟨(hk c).mpr hc,by rw [hj];rfl⟩,by rw [hj];rfl⟩
theorem ri(tc:List (Int × Int))(ks:List Int):(iS tc ks).length<=ks.length:=by
 unfold iS;rw [length_map];exact List.length_filter_le _ _
theorem qW{i:Nat}{Pt:Addr}{mg:Str->Option Value}{q:Str}{t:TE}{σ:St}{Q:VK}{H:Hp}{p:Addr}{xs:List Int}(kf:Int->Int){fv:V}(hp:H p=some (.lst (xs.map V.int)))(hi:σ[i]? = some (some fv))(hT:TbH mg H Pt q)(hn:∀ x∈xs,0<=x)(ht:∀ x∈xs,∀ H',Ext H H'->∀ Q':VK,Q' (.int (kf x)) H'->t [some (.int x),some fv] H' Q')
  (h:∀ b:Option Nat,(b=none->xs=[])->(∀ j:Nat,b=some j->(j:Int)∈xs/\∀ y∈xs,kf y<=kf (j:Int))->∀ H',Ext H H'->Q (uj b) H'):yP i Pt mg q t σ Q [.ref p] H:=by
 refine zc kf hp hi hT ht (λ h0 H' e=>h none (λ _=>h0) (λ j hj=>by cases hj) H' e) λ x hx hm H' e=>?_;have hx0:=hn x hx;have ex:((x.toNat:Nat):Int)=x:=NX hx0;have:=h (some x.toNat) (λ z=>by cases z) (λ j hj=>by cases hj;rw [ex];exact⟨hx,hm⟩) H' e;rw [←ex];exact this
theorem sk{H:Hp}{fs:List (Nat × Option Nat)}{ys:List V}(al:Al (FnT H) fs ys){k:Nat}(hk:k < fs.length):∃ q,atI ys (k:Int)=some (.ref q)/\H q=some (.tup [.int (aE fs k:Int),uj (kA fs k)]):=by
 have hy:k < ys.length:=by rw [al.1];exact hk
 obtain⟨q,h1,h2⟩:=al.2 k _ _ (getElem?_eq_getElem hk) (getElem?_eq_getElem hy);refine⟨q,bA (by rw [getElem?_eq_getElem hy,h1]),?_⟩;unfold aE kA;rw [getD_eq_getElem?_getD,getElem?_eq_getElem hk];exact h2
structure DoI(H H':Hp)(ds:List Sd)(fl dw dt:Addr)(n:Nat)(fs:List (Nat × Option Nat))(wr tc:List (Int × Int))(ys:List V):Prop where
 ex:Ext H H'
 f:H' fl=some (.lst ys)
 al:Al (FnT H') fs ys
 nn:fs.length=n
 dl:DlP ds fs
 w:H' dw=some (.dK (b0 wr))
 mw:MxI (aE fs) (λ c k=>k < n/\c∈WrD (atD ds k)) wr
 wl:wr.length<=80000 * n
 t:H' dt=some (.dK (b0 tc))
 mt:MxI (aE fs) (λ c k=>k < n/\c∈Tch (atD ds k)) tc
 tl:tc.length<=80000 * n
theorem Bk(lev:Nat->Nat)(T:Int->Nat->Prop)(h:∀ c k,¬ T c k):MxI lev T []:=⟨(λ c j hj=>by cases hj),λ c i hi=>absurd hi (h c i)⟩
theorem md{H H1:Hp}(e:Ext H H1)(d:Addr)(o:HO):Ext (upd H d o) (upd H1 d o):=kB.ext λ b u h=>by
 by_cases hb:b=d
 ·rw [hb,ag] at h ⊢;exact h
 ·rw [ae hb] at h ⊢;exact e.at h
structure DiI(B H':Hp)(dw dt:Addr)(fs:List (Nat × Option Nat))(T S:Int->Nat->Prop)(n m:Nat)(wr tc:List (Int × Int)):Prop where
 ex:Ext B H'
 w:H' dw=some (.dK (b0 wr))
 mw:MxI (aE fs) S wr
 wl:wr.length<=n
 t:H' dt=some (.dK (b0 tc))
 mt:MxI (aE fs) T tc
 tl:tc.length<=m
theorem qO{fs:List (Nat × Option Nat)}{x:Nat × Option Nat}{n:Nat}(hn:fs.length=n){T:Int->Nat->Prop}(hT:∀ c k,T c k->k < n){tc:List (Int × Int)}(h:MxI (aE fs) T tc):MxI (aE (fs++[x])) T tc:=by
 refine⟨λ c j hj=>?_,h.2⟩;obtain⟨k,h1,h2,h3⟩:=h.1 c j hj;refine⟨k,h1,h2,λ i hi=>?_⟩;rw [(cx (by rw [hn];exact hT c i hi)).1,(cx (by rw [hn];exact hT c k h2)).1];exact h3 i hi
def KN(ds:List Sd)(H:Hp)(r:Addr):Prop:=∃ fs ys,H r=some (.lst ys)/\Al (FnT H) fs ys/\fs.length=ds.length/\DlP ds fs
abbrev oV(mg:Str->Option Value)(t:Adr)(p:Addr)(H:Hp)(Q:VK)(E:XK):Prop:=∃ (room:Int) (ds:List Sd),StL t H room p ds/\ds.length<=60/\TbH mg H 476 (yB "dealt")/\∀ (r:Addr) (H':Hp),Ext H H'->KN ds H' r->Q (.ref r) H'
def pT(mg:Str->Option Value)(t:Adr):Sp:=λ vs H Q E=>∃ (p:Addr),vs=[.ref p]/\(oV mg t p H Q E)
theorem oE(mg:Str->Option Value)(t:Adr)(p:Addr)(H:Hp)(Q:VK)(E:XK):pT mg t [.ref p] H Q E=(oV mg t p H Q E):=g9 (f:=λ (p:Addr)=>[.ref p]) (λ _ _ h=>by cases h;exact rfl) p
theorem xQ(mg:Str->Option Value)(t:Adr){vs:List V}{H:Hp}{Q:VK}{E:XK}(h:pT mg t vs H Q E):vs.length=1:=gb h λ _=>rfl
theorem iX(T:Tx K mg t):aW P w K mg base CX0 6 t.a_dealt t.d_dealt ["statements"] (pT mg t):=by
 have MD_writes:=MDw (P:=P) (w:=w) (base:=base) T;have MD_reads:=MDr (P:=P) (w:=w) (base:=base) T;have G_cells_of:=%[qf|41];refine T.F_dealt.okC cq (λ vs H Q E h=>xQ _ _ h) (λ cdv A outer s H vs Q E hcd hr h=>?_)
 ·obtain⟨p,rfl,room,ds,⟨ss,hp,al⟩,hl,hTb,k⟩:=h;have hLam:BP K cdv 476:=by rw [hcd];exact T.lt_dealt
  refine⟨_,%[(@dX _ _ (1) _ _ _ _ cq.nd rfl (Or.inr rfl) %[(@aH _)|12] ∅ %[0|7]),%[(@dX _ _ (2) _ _ _ _ cq.nd rfl (Or.inr rfl) (@mG _ _) ∅ %[0|7]),%[(@dX _ _ (3) _ _ _ _ cq.nd rfl (Or.inr rfl) (@mG _ _) ∅ %[0|7]),%[%[Mt,rfl,(@p0 _ _ _ _ _ _ _ _ ∅ T.z_enumerate %[%[0|0]|1] ∅),(%[(2),rfl,%[%[4,cq|5],%[%[5,cq|5],(@bw _),∅|20],∅|20],∅,∅|31].mono λ _ _ _ _ h=>dY h),%[%[6,cq,%[cells_of,%[%[%[5|0],MD_writes,(hr.mono ⋯),bu,∅|40]|1]|3]|4],%[%[7,cq,%[cells_of,%[%[%[5|0],MD_reads,(hr.mono ⋯),bu,∅|40]|1]|3]|4],%[(@pZ _ _ _ %[(["cell", "statements", "found", "wrote", "touched", "number", "statement", "written", "read", "rivals", "before", "at", "!cell"]),(1),(8),_,cq.nd,rfl,(Or.inl rfl),(aQ (aa fe) ["statements", "found", "wrote", "touched", "number", "statement", "written", "read", "rivals", "before", "at", "cell"] rfl rfl nofun),rfl,(@lV _ _ _ _ %[6|0]),(λ C s₀ H₀ ex pn=>%[(0),_,(show List.Nodup (["cell", "statements", "found", "wrote", "touched", "number", "statement", "written", "read", "rivals", "before", "at", "!cell"]:List Str) from by decide +kernel),rfl,(Or.inl rfl),%[0|7]|19]),(λ C s₀ H₀ ex pn=>(@hV _ _ _ %[(Bg (fT hr.units)),%[0|0],%[4|0],(by with_unfolding_all rfl)|15])),(λ C s₀ H₀ ex pn=>(@p5 _ _ _ _ _ _ (fT hr.units) %[4|0] %[0|0] (λ _ _=>rfl))),∅,(by intros;rfl),%[0|7]|38]),%[%[%[Mo,Nv,Nu,fg,%[8|0],%[(@CI _ _ _ %[(["cell", "statements", "found", "wrote", "touched", "number", "statement", "written", "read", "rivals", "before", "at", "!cell"]),(1),(aQ (aa fe) ["statements", "found", "wrote", "touched", "number", "statement", "written", "read", "rivals", "before", "at", "cell"] rfl rfl nofun),rfl,(@lV _ _ _ _ %[7|0]),(λ C s₀ H₀ ex pn=>%[(0),_,(show List.Nodup (["cell", "statements", "found", "wrote", "touched", "number", "statement", "written", "read", "rivals", "before", "at", "!cell"]:List Str) from by decide +kernel),rfl,(Or.inl rfl),%[0|7]|19]),(λ C s₀ H₀ ex pn=>(@hV _ _ _ %[(Bg (fT hr.units)),%[0|0],%[3|0],(by with_unfolding_all rfl)|15])),(λ C s₀ H₀ ex pn=>(@p5 _ _ _ _ _ _ (fT hr.units) %[3|0] %[0|0] (λ _ _=>rfl))),(by intros;rfl)|28])|1],∅,∅,∅,∅,∅|30],∅|16],%[%[9,cq,(@p4 _ (1) (0) ("rival") _ _ _ _ _ _ _ _ _ _ _ _ _ _ _ rfl (hr.mono ⋯) ∅ T.z_max %[%[8|0]|1] hLam nofun (λ A' f' c' cl' s' H'=>%[bL,%[bL,%[1|0],%[0|0],(λ _ _=>rfl)|14],%[0|2],(λ _ _=>rfl)|14]) ∅ ∅ ∅ ⋯ ∅ ∅ ∅ ∅ (by intros;rfl) ∅ ∅ ∅ ∅ ∅)|4],%[%[10,cq,(@rp _ _ _ _ _ _ _ _ %[Gm,%[9|0],(@uW _ _ _),(aw _)|15] %[0|2] %[bB,%[bL,%[bL,%[1|0],%[9|0],(λ _ _=>rfl)|14],%[0|2],(λ _ _=>rfl)|14],%[0|2]|11])|4],%[%[%[Mo,MI,MH,bo,%[1|0],%[%[%[%[10|0],%[%[9|0]|1]|1]|22]|1],∅,∅,∅,∅,∅|30],∅|16],%[(@pZ _ _ _ %[Mt,rfl,(@lV _ _ _ _ %[7|0]),%[11,cq|5],%[%[(PW.pt %[%[(wJ (fT hr.units)),%[11|0],%[3|0],(by with_unfolding_all rfl)|15],%[%[BY,%[bL,%[bL,%[1|0],(@p5 _ _ _ _ _ _ (fT hr.units) %[3|0] %[11|0] (λ _ _=>rfl)),(λ _ _=>rfl)|14],%[0|2],(λ _ _=>rfl)|14],%[10|0],(aw _)|15]|32]|27]),%[(@lU _ _ _ _ _ _ _ _ _ (fT hr.units) %[3|0] %[11|0] %[4|0] rfl)|10],(@ay _)|17]|10],(by intros;rfl)|21]),%[(@pZ _ _ _ %[Mt,rfl,(@lV _ _ _ _ %[6|0]),%[11,cq|5],%[(@lU _ _ _ _ _ _ _ _ _ (fT hr.units) %[3|0] %[11|0] %[4|0] rfl),%[(@lU _ _ _ _ _ _ _ _ _ (fT hr.units) %[2|0] %[11|0] %[4|0] rfl)|10]|9],(by intros;rfl)|21])|10]|9]|9]|9]|9]|9]|9]|9]|9],(by intros;rfl)|21],%[%[%[1|0]|13]|10]|9]|9]|9]|9],?_⟩;rw [show au ["statements", "found", "wrote", "touched", "number", "statement", "written", "read", "rivals", "before", "at", "cell"] [.ref p]=[some (.ref p),none,none,none,none,none,none,none,none,none,none,none] from rfl];clear G_cells_of MD_writes MD_reads hLam hcd;exists k;exists al;exists hTb;have hsl:ss.length<=60:=by rw [(al ()).1];exact hl
  have hsd:ss.length=ds.length:=(al ()).1;exists hsd;ac_rfl;intro fl H1 hf1 e1 h1;ac_rfl;intro dw H2 hw2 e2 h2;ac_rfl;intro dt H3 ht3 e3 h3;have hf0:H fl=none:=hf1;have hw0:H dw=none:=e1.free hw2;have ht0:H dt=none:=(e1.trans e2).free ht3;have nfw:fl ≠ dw:=λ e=>by rw [←e,h1] at hw2;cases hw2
  have nft:fl ≠ dt:=λ e=>by rw [←e,e2.at h1] at ht3;cases ht3
  have nwt:dw ≠ dt:=λ e=>by rw [←e,h2] at ht3;cases ht3
  have ini:DoI H H3 ds fl dw dt 0 [] [] [] []:=⟨e1.trans (e2.trans e3),(e2.trans e3).at h1,Al.nil,rfl,⟨λ k hk=>absurd hk (M4 _),λ k hk=>absurd hk (M4 _),λ k hk=>absurd hk (M4 _)⟩,e3.at h2,Bk _ _ (λ c k h=>absurd h.1 (M4 _)),MC _,h3,Bk _ _ (λ c k h=>absurd h.1 (M4 _)),MC _⟩;have hp3:=(e1.trans (e2.trans e3)).at hp;clear h1 h2 h3 e1 e2 e3 hf1 hw2 ht3;ac_rfl;refine rL (l:=p) (xs:=ss) (λ i σ H'=>∃ (v4 v5 v6 v7 v8 v9 v10 v11:Option V) (fs:List (Nat × Option Nat)) (wr tc:List (Int × Int)) (ys:List V),σ=[some (.ref p),some (.ref fl),some (.ref dw),some (.ref dt),v4,v5,v6,v7,v8,v9,v10,v11]/\DoI H H' ds fl dw dt i fs wr tc ys) ⟨none,none,none,none,none,none,none,none,[],[],[],[],rfl,ini⟩ (λ i σ H' ⟨_,_,_,_,_,_,_,_,_,_,_,_,_,h⟩=>h.ex.at hp) ?_ ?_
  ·clear ini hp3 k;rintro n y q0 _ H4 H5 hi ⟨v4,v5,v6,v7,v8,v9,v10,v11,fs,wr,tc,ys,rfl,I4⟩ hq0 e5 hq5;have hnl:n < ss.length:=(L9.mp hi).1;obtain⟨d,hd⟩:∃ d,ds[n]? = some d:=⟨_,L8 (by rw [←hsd ()];exact hnl)⟩;obtain⟨s0,rfl,hs⟩:=(al ()).2 n d y hd hi;have eD:=Ij hd;have e05:=I4.ex.trans e5;have hsv:=(hs.ext e05).v;obtain⟨u,v,hsA,hvW,hvR,hW,hR⟩:=hsv.cells;have wl:=qK d.1 u v;have hn60:n < 60:=by omega
   exists I4;exists hvW;exists hvR;exists hW;exists hR;exists eD;clear hi hd hs hsv al;simp! only [↓aD];refine AZ hsA λ r1 H6 e6 h6=>?_;ac_rfl;rw [jP];refine⟨wrs d.1 u v,room,r8 t.a_View H5,h6,by omega,(hvW ()).ext e6,λ kwD H7 hk7 ⟨kw,e7,h7,hkw,hkwl⟩=>?_⟩;rw [hW ()] at hkw;exists hkw;have e57:=e6.trans e7;have nwk:dw ≠ kwD:=ah ((e5.trans e6).at (I4 ()).w) hk7;have ntk:dt ≠ kwD:=ah ((e5.trans e6).at (I4 ()).t) hk7;have nfk:fl ≠ kwD:=ah ((e5.trans e6).at (I4 ()).f) hk7;have hkw0:H kwD=none:=(e05.trans e6).free hk7;clear h6 e6 e7 hk7;ac_rfl;refine A3 (hsA.ext e57) λ r2 H8 e8 h8=>?_;ac_rfl;rw [jP];refine⟨rds d.1 u v,room,r8 t.a_View H5,h8,by omega,(hvR ()).ext (e57.trans e8),λ krD H9 hk9 ⟨kr,e9,h9,hkr,hkrl⟩=>?_⟩;rw [hR ()] at hkr;exists hkr;have e59:=e57.trans (e8.trans e9);have h7_9:=(e8.trans e9).at h7;have nkk:kwD ≠ krD:=ah (e8.at h7) hk9;have nwr:dw ≠ krD:=ah ((e5.trans (e57.trans e8)).at (I4 ()).w) hk9;have ntr:dt ≠ krD:=ah ((e5.trans (e57.trans e8)).at (I4 ()).t) hk9;have nfr:fl ≠ krD:=ah ((e5.trans (e57.trans e8)).at (I4 ()).f) hk9;have hkr0:H krD=none:=(e05.trans (e57.trans e8)).free hk9;have hf9:=(e5.trans e59).at (I4 ()).f;have hw9:=(e5.trans e59).at (I4 ()).w;have ht9:=(e5.trans e59).at (I4 ()).t
   have hn9:(b0 tc).length<=5000000/\(b0 wr).length<=5000000:=by
    have g1:=(I4 ()).tl;have g2:=(I4 ()).wl;rw [fb,fb];omega
   have e09:=e05.trans e59;have e49:=e5.trans e59;clear h7 h8 hk9 e8 e9 e57 hsA hvW hvR hW hR hq5 hq0 e5 e59 e05;ac_rfl;refine A4 (JA tc) (EV tc) h7_9 (lY (by rw [cK];omega)) ?_ ?_
   ·intro D ob z H' N1 N0 hz hD e hfr k1 k0;obtain⟨c,hc,rfl⟩:=vp hz;have ht':H' dt=some (.dK (b0 tc)):=e.at (by rw [ae ntk];exact ht9)
    show dE _ (V.int c) _ _ _
    cases hlk:bf tc c with
    | none=>
     have k0':N0 H':=k0 (by show (bf tc c).isSome=false;rw [hlk];rfl) H' (Ext.refl _);have hv:(eT (b0 tc) (.inl c)).isSome=false:=by rw [bj,hlk];rfl
     clear k1 k0 hz hfr I4 hkw hkr hc;simp! only [↓aF,↓aK];refine fS (k:=.inl c) ht' ?_;rw [hv];simp! only [↓aF,↓aK]
    | some j=>
     have k1':N1 (.int j) H':=by
      have:=k1 (by show (bf tc c).isSome=true;rw [hlk];rfl) H' (Ext.refl _);unfold EV at this;rw [show Iz ((Sum.inl c:Key),V.bl true)=c from rfl,hlk] at this;exact this
     have hv:(eT (b0 tc) (.inl c)).isSome=true:=by rw [bj,hlk];rfl
     have hv2:eT (b0 tc) (.inl c)=some (.int j):=by rw [bj,hlk];rfl
     clear k1 k0 hz hfr I4 hkw hkr hc;simp! only [↓aF,↓aK];refine fS (k:=.inl c) ht' ?_;rw [hv];simp! only [↓aF,↓aK];exact kP (k:=.inl c) ht' hv2 k1'
   intro D1 H10 hD1 e10 h10;rw [rh] at h10;have h9_10:=e10.at h9;have hw10:=e10.at hw9;have ht10:=e10.at ht9;have hf10:=e10.at hf9;have h7_10:=e10.at h7_9;have nD1:D1 ≠ krD:=(ah h9 hD1).symm;have nD1f:fl ≠ D1:=ah hf9 hD1;have nD1w:dw ≠ D1:=ah hw9 hD1;have nD1t:dt ≠ D1:=ah ht9 hD1;have nD1k:kwD ≠ D1:=ah h7_9 hD1;have nD1r:krD ≠ D1:=ah h9 hD1;have e410:=e49.trans e10;have e010:=e09.trans e10;have hD4:H4 D1=none:=e49.free hD1;have hD0:H D1=none:=e09.free hD1;clear h9 hw9 ht9 hf9 h7_9 hD1 e49 e09 e10;simp only [List.set_cons_succ,List.set_cons_zero];ac_rfl;refine A4 (JA wr) (EV wr) h9_10 (lY (by rw [cK];omega)) ?_ ?_
   ·intro D ob z H' N1 N0 hz hD e hfr k1 k0;obtain⟨c,hc,rfl⟩:=vp hz;have ht':H' dw=some (.dK (b0 wr)):=e.at (by rw [ae nwr];exact hw10)
    show dE _ (V.int c) _ _ _
    cases hlk:bf wr c with
    | none=>
     have k0':N0 H':=k0 (by show (bf wr c).isSome=false;rw [hlk];rfl) H' (Ext.refl _);have hv:(eT (b0 wr) (.inl c)).isSome=false:=by rw [bj,hlk];rfl
     clear k1 k0 hz hfr I4 hkw hkr hc;simp! only [↓aF,↓aK];refine fS (k:=.inl c) ht' ?_;rw [hv];simp! only [↓aF,↓aK]
    | some j=>
     have k1':N1 (.int j) H':=by
      have:=k1 (by show (bf wr c).isSome=true;rw [hlk];rfl) H' (Ext.refl _);unfold EV at this;rw [show Iz ((Sum.inl c:Key),V.bl true)=c from rfl,hlk] at this;exact this
     have hv:(eT (b0 wr) (.inl c)).isSome=true:=by rw [bj,hlk];rfl
     have hv2:eT (b0 wr) (.inl c)=some (.int j):=by rw [bj,hlk];rfl
     clear k1 k0 hz hfr I4 hkw hkr hc;simp! only [↓aF,↓aK];refine fS (k:=.inl c) ht' ?_;rw [hv];simp! only [↓aF,↓aK];exact kP (k:=.inl c) ht' hv2 k1'
   intro D2 H11 hD2 e11 h11;rw [rh] at h11;have h10_11:=e11.at h10
   have hlim:((iS tc kw).map V.int).length+((iS wr kr).map V.int).length<=sizeLine:=lY (by
    have g1:=ri tc kw;have g2:=ri wr kr;rw [Md,Md];omega)
   have hup:∀ b o,b ≠ D1->H11 b=some o->upd H11 D1 (.lst ((iS tc kw).map V.int++(iS wr kr).map V.int)) b=some o:=λ b o hb h=>by rw [ae hb];exact h
   have h9_12:=hup _ _ nD1r (e11.at h9_10);have hw12:=hup _ _ nD1w (e11.at hw10);have ht12:=hup _ _ nD1t (e11.at ht10);have hf12:=hup _ _ nD1f (e11.at hf10);have h7_12:=hup _ _ nD1k (e11.at h7_10);have e412:Ext H4 (upd H11 D1 (.lst ((iS tc kw).map V.int++(iS wr kr).map V.int))):=(e410.trans e11).put hD4;have e012:Ext H (upd H11 D1 (.lst ((iS tc kw).map V.int++(iS wr kr).map V.int))):=(e010.trans e11).put hD0;have hr12:upd H11 D1 (.lst ((iS tc kw).map V.int++(iS wr kr).map V.int)) D1=some (.lst ((iS tc kw++iS wr kr).map V.int)):=by rw [ag,Nc]
   have hrs:∀ r,r∈iS tc kw++iS wr kr ↔ (∃ c∈WrD (atD ds n),bf tc c=some r)\/∃ c∈RdD (atD ds n),bf wr c=some r:=λ r=>by
    rw [MA,vw (hkw ()),vw (hkr ()),eD ()];exact Iff.rfl
   have hro:=FN (I4 ()).nn (I4 ()).mt (I4 ()).mw hrs;have alF:=(I4 ()).al.imp λ _ _ q=>FnT.ext q e412;exists hrs;exists hro;exists alF;clear h10 h9_10 hw10 ht10 hf10 h7_10 e410 e010 hD4 hD0 e412 hup;ac_rfl;refine⟨by rw [Md,Md] at hlim;exact hlim,?_⟩;generalize upd H11 D1 (.lst ((iS tc kw).map V.int++(iS wr kr).map V.int))=H12 at *;clear h11 h10_11 e11 hD2 hlim;generalize iS tc kw++iS wr kr=rs at *;have hys:ys.length=n:=by rw [(alF ()).1];exact(I4 ()).nn
   have hyl:ys.length < sizeLine:=iJ %[0|8];have hfn:=(I4 ()).nn;exists hys;exists hfn;refine qW (xs:=rs) (λ x=>(aE fs x.toNat:Int)) hr12 ∅ ((hTb ()).ext e012) (λ x hx=>?_) (λ x hx H' e' Q' q'=>?_) (λ b hb0 hb1 H13 e13=>?_)
   ·obtain⟨k,rfl,_⟩:=(hro ()).1 x hx;exact ON _
   ·obtain⟨k,rfl,hk,_⟩:=(hro ()).1 x hx;obtain⟨q,hq1,hq2⟩:=sk (alF ()) (by rw [hfn ()];exact hk);have hf':=e'.at hf12;have hq':=e'.at hq2;rw [Mz] at q';clear hx hro hrs alF I4 hq2 hf12;ac_rfl
   have hup1:∀ i,i < n->ClD (atD ds i) (atD ds n)->∃ r∈rs,aE fs i<=aE fs r.toNat:=(hro ()).2;have hf13:=e13.at hf12;have hw13:=e13.at hw12;have ht13:=e13.at ht12;have h7_13:=e13.at h7_12;have h9_13:=e13.at h9_12;have e013:=e012.trans e13;have alF13:=(alF ()).imp λ _ _ q=>FnT.ext q e13;exists alF13;clear hf12 hw12 ht12 h7_12 h9_12 e012 e13 alF hr12
   cases b with
   | none=>
    have dl':DlP ds (fs++[(0,none)]):=by
     refine(I4 ()).dl.step (λ i hi hc=>?_) (λ h=>?_) (λ j' h=>?_)
     ·obtain⟨r,hr,_⟩:=hup1 i (by rw [←hfn ()];exact hi) (by rw [←hfn ()];exact hc);rw [hb0 rfl] at hr;cases hr
     ·rfl
     ·cases h
    have hle:∀ i,i < n->ClD (atD ds i) (atD ds n)->aE (fs++[(0,none)]) i<=aE (fs++[(0,none)]) n:=λ i hi hc=>NK (dl'.up n (by rw [Ml,Mv,hfn ()];omega) i hi hc);have hlevn:aE (fs++[(0,none)]) n=0:=by have:=(mK fs (0,none)).1;rw [hfn ()] at this;exact this
    have mtx:=qO (x:=(0,none)) (hfn ()) (λ c k h=>h.1) (I4 ()).mt;have mwx:=qO (x:=(0,none)) (hfn ()) (λ c k h=>h.1) (I4 ()).mw;have gtl:=(I4 ()).tl;have gwl:=(I4 ()).wl;exists dl';exists hle;exists hlevn;exists mtx;exists mwx;clear hb0 hb1 hup1 hro hrs;rw [show uj none=V.non from rfl];ac_rfl;intro q H14 hq14 e14 h14;have hf14:=e14.at hf13;have hw14:=e14.at hw13;have ht14:=e14.at ht13;have h7_14:=e14.at h7_13;have h9_14:=e14.at h9_13;have nq:∀ b o,H13 b=some o->b ≠ q:=λ b o h=>ah h hq14;have nqf:q ≠ fl:=(nq _ _ hf13).symm;have e015:Ext H (upd H14 fl (.lst (ys++[.ref q]))):=(e013.trans e14).put hf0;have hfl15:upd H14 fl (.lst (ys++[.ref q])) fl=some (.lst (ys++[.ref q])):=ag;have hw15:upd H14 fl (.lst (ys++[.ref q])) dw=some (.dK (b0 wr)):=by rw [ae nfw.symm];exact hw14
    have ht15:upd H14 fl (.lst (ys++[.ref q])) dt=some (.dK (b0 tc)):=by rw [ae nft.symm];exact ht14
    have h7_15:upd H14 fl (.lst (ys++[.ref q])) kwD=some (.dK (bM kw)):=by rw [ae nfk.symm];exact h7_14
    have h9_15:upd H14 fl (.lst (ys++[.ref q])) krD=some (.dK (bM kr)):=by rw [ae nfr.symm];exact h9_14
    have al15:Al (FnT (upd H14 fl (.lst (ys++[.ref q])))) (fs++[(0,none)]) (ys++[.ref q]):=by
     refine Al.snoc ((alF13 ()).imp λ f y ⟨q1,z1,z2⟩=>⟨q1,z1,?_⟩) ⟨q,rfl,?_⟩
     ·rw [ae (λ e=>by rw [e,hf13] at z2;cases z2)];exact e14.at z2
     ·rw [ae nqf];exact h14
    exists al15;clear hf13 hw13 ht13 h7_13 h9_13 alF13 e013;ac_rfl;generalize upd H14 fl (.lst (ys++[.ref q]))=H15 at *;clear hf14 hw14 ht14 h7_14 h9_14 h14 e14 hq14 nq nqf
    have hBe:Ext H (iy [dw,dt] H15):=BE e015 λ b hb=>by
     rcases ML.mp hb with rfl|hb
     ·exact hw0
     ·rw [Mh.mp hb];exact ht0
    have hcut:∀ b o,b ≠ dw->b ≠ dt->H15 b=some o->iy [dw,dt] H15 b=some o:=λ b o h1 h2 h=>vf (by simp [h1,h2]) h;have alB:Al (FnT (iy [dw,dt] H15)) (fs++[(0,none)]) (ys++[.ref q]):=(al15 ()).imp λ f y ⟨q1,z1,z2⟩=>⟨q1,z1,hcut _ _ (λ e=>by rw [e,hw15] at z2;cases z2) (λ e=>by rw [e,ht15] at z2;cases z2) z2⟩;have hBf:iy [dw,dt] H15 fl=some (.lst (ys++[.ref q])):=hcut _ _ nfw nft hfl15;have hB7:iy [dw,dt] H15 kwD=some (.dK (bM kw)):=hcut _ _ nwk.symm ntk.symm h7_15;have hB9:iy [dw,dt] H15 krD=some (.dK (bM kr)):=hcut _ _ nwr.symm ntr.symm h9_15;have hBw:iy [dw,dt] H15 dw=none:=mf (by simp);have hBt:iy [dw,dt] H15 dt=none:=mf (by simp);have hB15:Ext (iy [dw,dt] H15) H15:=vX _ _;exists alB;generalize iy [dw,dt] H15=B at *;clear hcut al15 hfl15 h7_15;refine iZ (a:=krD) (kvs:=bM kr) (λ ob i σ H'=>∃ (v11:Option V) (tc':List (Int × Int)),σ=[some (.ref p),some (.ref fl),some (.ref dw),some (.ref dt),some (.int (n:Int)),some (.ref s0),some (.ref kwD),some (.ref krD),some (.ref D1),some .non,some (.int 0),v11]/\DiI (upd B krD (.frz ob (.dK (bM kr)))) H' dw dt (fs++[(0,none)]) (λ c k=>(k < n/\c∈Tch (atD ds k))\/(k=n/\c∈kr.take i)) (λ c k=>k < n/\c∈WrD (atD ds k)) (80000 * n) (80000 * n+i) wr tc') h9_15 (λ ob=>⟨v11,tc,rfl,⟨md hB15 _ _,by rw [ae nwr];exact hw15,mwx (),gwl,by rw [ae ntr];exact ht15,(mtx ()).iff (λ c k=>⟨.inl,λ z=>z.elim id λ z=>absurd z.2 (by rw [N2];exact MK)⟩),gtl⟩⟩) (λ ob i σ' H' ⟨_,_,_,h⟩=>h.ex.at ag) ?_ ?_
    ·rintro ob i z _ H16 hz ⟨v11',tc',rfl,I16⟩ f16
     obtain⟨c,hc,rfl⟩:∃ c,kr[i]? = some c/\z=((Sum.inl c:Key),V.bl true):=by
      unfold bM at hz;rw [getElem?_map] at hz;obtain⟨y,h1,h2⟩:=Option.map_eq_some_iff.mp hz;exact⟨y,h1,h2.symm⟩
     rw [show kV ((Sum.inl c:Key),V.bl true).1=V.int c from rfl];have hil:i < kr.length:=(L9.mp hc).1
     have htk:∀ c' k,((k < n/\c'∈Tch (atD ds k))\/(k=n/\c'∈kr.take i))\/(k=n/\c'=c) ↔ (k < n/\c'∈Tch (atD ds k))\/(k=n/\c'∈kr.take (i+1)):=λ c' k=>by
      rw [M7,hc,MA];constructor
      ·rintro ((h|⟨h,h'⟩)|⟨h,h'⟩)
       ·exact .inl h
       ·exact .inr ⟨h,.inl h'⟩
       ·exact .inr ⟨h,.inr (by simp [h'])⟩
      ·rintro (h|⟨h,h'|h'⟩)
       ·exact .inl (.inl h)
       ·exact .inl (.inr ⟨h,h'⟩)
       ·exact .inr ⟨h,by simpa using h'⟩
     have ht16:=I16.t;have hlim:(b0 tc').length < sizeLine:=iJ (by rw [fb];have:=I16.tl;omega);have hBt':upd B krD (.frz ob (.dK (bM kr))) dt=none:=by rw [ae ntr];exact hBt
     have put16:(∀ i',(i' < n/\c∈Tch (atD ds i'))\/(i'=n/\c∈kr.take i)->aE (fs++[(0,none)]) i'<=aE (fs++[(0,none)]) n)->DiI (upd B krD (.frz ob (.dK (bM kr)))) (upd H16 dt (.dK (b0 (ku tc' c n)))) dw dt (fs++[(0,none)]) (λ c k=>(k < n/\c∈Tch (atD ds k))\/(k=n/\c∈kr.take (i+1))) (λ c k=>k < n/\c∈WrD (atD ds k)) (80000 * n) (80000 * n+(i+1)) wr (ku tc' c n):=λ hn=>⟨I16.ex.put hBt',by rw [ae nwt];exact I16.w,I16.mw,I16.wl,ag,(I16.mt.put c n hn).iff htk,by have:=fH tc' c n;have:=I16.tl;omega⟩;exists put16;exists htk
     cases hlk:bf tc' c with
     | none=>
      have hv:(eT (b0 tc') (.inl c)).isSome=false:=by rw [bj,hlk];rfl
      have fin:=put16 () λ i' hi'=>(by obtain⟨j,hj⟩:=I16.mt.2 c i' hi';rw [hlk] at hj;cases hj);exists fin;clear hz hc I16 I4 hkw hkr dl' hle mtx mwx alB hB15 hBe f16 htk put16;ac_rfl;refine fS (k:=.inl c) ht16 ?_;rw [hv];ac_rfl;refine gG (k:=.inl c) ht16 hlim ?_;rw [cL];exact⟨_,_,rfl,fin ()⟩
     | some j=>
      have hv:(eT (b0 tc') (.inl c)).isSome=true:=by rw [bj,hlk];rfl
      have hv2:eT (b0 tc') (.inl c)=some (.int j):=by rw [bj,hlk];rfl
      obtain⟨k,rfl,hk,hmx⟩:=I16.mt.1 c j hlk
      have hkn:k < (fs++[(0,none)]).length:=by
       rw [Ml,Mv,hfn ()]
       rcases hk with ⟨h,_⟩|⟨h,_⟩<;>omega
      obtain⟨q1,hq1,hq2⟩:=sk (alB ()) hkn;have nq1:q1 ≠ krD:=λ e=>by rw [e,hB9] at hq2;cases hq2
      have hq16:H16 q1=some (.tup [.int (aE (fs++[(0,none)]) k:Int),uj (kA (fs++[(0,none)]) k)]):=I16.ex.at (by rw [ae nq1];exact hq2);have hf16:H16 fl=some (.lst (ys++[.ref q])):=I16.ex.at (by rw [ae nfr];exact hBf)
      by_cases hlt:aE (fs++[(0,none)]) k < 0
      ·have fin:=put16 () λ i' hi'=>(by have:=hmx i' hi';rw [hlevn ()];omega);have hlti:(aE (fs++[(0,none)]) k:Int) < 0:=by omega
       exists fin;generalize (aE (fs++[(0,none)]) k:Int)=lk at *;clear hz hc I16 I4 hkw hkr dl' hle mtx mwx alB hB15 hBe f16 htk put16 hmx hq2 hlt hk;ac_rfl;refine fS (k:=.inl c) ht16 ?_;rw [hv];ac_rfl;refine kP (k:=.inl c) ht16 hv2 ?_;ac_rfl;refine gG (k:=.inl c) ht16 hlim ?_;rw [cL];exact⟨_,_,rfl,fin ()⟩
      ·have fin:DiI (upd B krD (.frz ob (.dK (bM kr)))) H16 dw dt (fs++[(0,none)]) (λ c k=>(k < n/\c∈Tch (atD ds k))\/(k=n/\c∈kr.take (i+1))) (λ c k=>k < n/\c∈WrD (atD ds k)) (80000 * n) (80000 * n+(i+1)) wr tc':=⟨I16.ex,I16.w,I16.mw,I16.wl,I16.t,(I16.mt.skip c n hlk (by rw [hlevn (),Mz];omega)).iff (htk ()),by have:=I16.tl;omega⟩;have hlti:¬ (aE (fs++[(0,none)]) k:Int) < 0:=by omega
       exists fin;generalize (aE (fs++[(0,none)]) k:Int)=lk at *;clear hz hc I16 I4 hkw hkr dl' hle mtx mwx alB hB15 hBe f16 htk put16 hmx hq2 hlt hk;ac_rfl;refine fS (k:=.inl c) ht16 ?_;rw [hv];ac_rfl;refine kP (k:=.inl c) ht16 hv2 ?_;ac_rfl;exact⟨_,_,rfl,fin ()⟩
    ·rintro ob _ H16 ⟨v11',tc',rfl,I16⟩
     have hT:MxI (aE (fs++[(0,none)])) (λ c k=>(k < n/\c∈Tch (atD ds k))\/(k=n/\c∈kr)) tc':=by
      have:=I16.mt;rw [cK,MX] at this;exact this
     have gt16:=I16.tl;rw [cK] at gt16;have eB17:Ext B (upd H16 krD (.dK (bM kr))):=Ext.thaw hB9 I16.ex;have hw17:upd H16 krD (.dK (bM kr)) dw=some (.dK (b0 wr)):=by rw [ae nwr];exact I16.w
     have ht17:upd H16 krD (.dK (bM kr)) dt=some (.dK (b0 tc')):=by rw [ae ntr];exact I16.t
     have h7_17:=eB17.at hB7;have mw17:=I16.mw;exists hT;exists mw17;generalize upd H16 krD (.dK (bM kr))=H17 at *;clear I16 hB9 hw15 ht15 h9_15;ac_rfl;refine iZ (a:=kwD) (kvs:=bM kw) (λ ob i σ H'=>∃ (v11:Option V) (wr' tc'':List (Int × Int)),σ=[some (.ref p),some (.ref fl),some (.ref dw),some (.ref dt),some (.int (n:Int)),some (.ref s0),some (.ref kwD),some (.ref krD),some (.ref D1),some .non,some (.int 0),v11]/\DiI (upd B kwD (.frz ob (.dK (bM kw)))) H' dw dt (fs++[(0,none)]) (λ c k=>((k < n/\c∈Tch (atD ds k))\/(k=n/\c∈kr))\/(k=n/\c∈kw.take i)) (λ c k=>(k < n/\c∈WrD (atD ds k))\/(k=n/\c∈kw.take i)) (80000 * n+i) (80000 * n+kr.length+i) wr' tc'') h7_17 (λ ob=>⟨v11',wr,tc',rfl,⟨md eB17 _ _,by rw [ae nwk];exact hw17,(mw17 ()).iff (λ c k=>⟨.inl,λ z=>z.elim id λ z=>absurd z.2 (by rw [N2];exact MK)⟩),gwl,by rw [ae ntk];exact ht17,(hT ()).iff (λ c k=>⟨.inl,λ z=>z.elim id λ z=>absurd z.2 (by rw [N2];exact MK)⟩),gt16⟩⟩) (λ ob i σ' H' ⟨_,_,_,_,h⟩=>h.ex.at ag) ?_ ?_
     ·rintro ob i z _ H18 hz ⟨v12,wr',tc'',rfl,I18⟩ f18
      obtain⟨c,hc,rfl⟩:∃ c,kw[i]? = some c/\z=((Sum.inl c:Key),V.bl true):=by
       unfold bM at hz;rw [getElem?_map] at hz;obtain⟨y,h1,h2⟩:=Option.map_eq_some_iff.mp hz;exact⟨y,h1,h2.symm⟩
      rw [show kV ((Sum.inl c:Key),V.bl true).1=V.int c from rfl];have hil:i < kw.length:=(L9.mp hc).1
      have hcW:c∈WrD (atD ds n):=by
       rw [eD ()];exact(hkw () c).mp (Mu hc)
      have htk:∀ (T:Int->Nat->Prop) c' k,(T c' k\/(k=n/\c'∈kw.take i))\/(k=n/\c'=c) ↔ T c' k\/(k=n/\c'∈kw.take (i+1)):=λ T c' k=>by
       rw [M7,hc,MA];constructor
       ·rintro ((h|⟨h,h'⟩)|⟨h,h'⟩)
        ·exact .inl h
        ·exact .inr ⟨h,.inl h'⟩
        ·exact .inr ⟨h,.inr (by simp [h'])⟩
       ·rintro (h|⟨h,h'|h'⟩)
        ·exact .inl (.inl h)
        ·exact .inl (.inr ⟨h,h'⟩)
        ·exact .inr ⟨h,by simpa using h'⟩
      have ht18:=I18.t;have hw18:upd H18 dt (.dK (b0 (ku tc'' c n))) dw=some (.dK (b0 wr')):=by rw [ae nwt];exact I18.w
      have hlim:(b0 tc'').length < sizeLine:=iJ (by rw [fb];have:=I18.tl;omega);have hlim2:(b0 wr').length < sizeLine:=iJ (by rw [fb];have:=I18.wl;omega);have hBt':upd B kwD (.frz ob (.dK (bM kw))) dt=none:=by rw [ae ntk];exact hBt
      have hBw':upd B kwD (.frz ob (.dK (bM kw))) dw=none:=by rw [ae nwk];exact hBw
      have mT:=(I18.mt.put c n λ i' hi'=>by
       rcases hi' with (⟨h,h'⟩|⟨rfl,_⟩)|⟨rfl,_⟩
       ·refine hle () i' h ?_
        rcases MA.mp h' with q|q
        ·exact .inl ⟨c,q,MJ _ hcW⟩
        ·exact .inr ⟨c,hcW,q⟩
       ·exact Mb _
       ·exact Mb _).iff (htk λ c k=>(k < n/\c∈Tch (atD ds k))\/(k=n/\c∈kr))
      have mW:=(I18.mw.put c n λ i' hi'=>by
       rcases hi' with ⟨h,h'⟩|⟨rfl,_⟩
       ·exact hle () i' h (.inl ⟨c,h',MJ _ hcW⟩)
       ·exact Mb _).iff (htk λ c k=>k < n/\c∈WrD (atD ds k))
      have fin:DiI (upd B kwD (.frz ob (.dK (bM kw)))) (upd (upd H18 dt (.dK (b0 (ku tc'' c n)))) dw (.dK (b0 (ku wr' c n)))) dw dt (fs++[(0,none)]) (λ c k=>((k < n/\c∈Tch (atD ds k))\/(k=n/\c∈kr))\/(k=n/\c∈kw.take (i+1))) (λ c k=>(k < n/\c∈WrD (atD ds k))\/(k=n/\c∈kw.take (i+1))) (80000 * n+(i+1)) (80000 * n+kr.length+(i+1)) (ku wr' c n) (ku tc'' c n):=⟨(I18.ex.put hBt').put hBw',ag,mW,by have:=fH wr' c n;have:=I18.wl;omega,by rw [ae nwt.symm];exact ag,mT,by have:=fH tc'' c n;have:=I18.tl;omega⟩;exists fin;clear hz hc I18 I4 hkw hkr dl' hle mtx mwx alB hB15 hBe f18 htk mT mW hcW hT mw17;ac_rfl;refine gG (k:=.inl c) ht18 hlim ?_;rw [cL];ac_rfl;refine gG (k:=.inl c) hw18 hlim2 ?_;rw [cL];exact⟨_,_,_,rfl,fin ()⟩
     ·rintro ob _ H18 ⟨v12,wr',tc'',rfl,I18⟩;have eB19:Ext B (upd H18 kwD (.dK (bM kw))):=Ext.thaw hB7 I18.ex;have g1:=I18.wl;have g2:=I18.tl;have g3:=I18.mw;have g4:=I18.mt;rw [cK] at g1 g2 g3 g4;rw [MX] at g3 g4
      have lst:∀ {P:Nat->Prop} (k:Nat),(k < n/\P k)\/(k=n/\P n) ↔ k < n+1/\P k:=λ {P} k=>by
       constructor
       ·rintro (⟨h,h'⟩|⟨rfl,h'⟩)
        ·exact⟨by omega,h'⟩
        ·exact⟨by omega,h'⟩
       ·rintro ⟨h,h'⟩
        by_cases hk:k=n
        ·subst hk;exact .inr ⟨rfl,h'⟩
        ·exact .inl ⟨by omega,h'⟩
      have fin:DoI H (upd H18 kwD (.dK (bM kw))) ds fl dw dt (n+1) (fs++[(0,none)]) wr' tc'' (ys++[.ref q]):=by
       refine⟨hBe.trans eB19,eB19.at hBf,(alB ()).imp λ _ _ h=>h.ext eB19,by rw [Ml,Mv,hfn ()],dl' (),by rw [ae nwk];exact I18.w,g3.iff λ c k=>?_,by omega,by rw [ae ntk];exact I18.t,g4.iff λ c k=>?_,by omega⟩
       ·rw [←lst (P:=λ k=>c∈WrD (atD ds k)) k,hkw () c,eD ()];exact Iff.rfl
       ·rw [←lst (P:=λ k=>c∈Tch (atD ds k)) k,hkw () c,hkr () c,eD ()];constructor
        ·rintro ((h|⟨h,h'⟩)|⟨h,h'⟩)
         ·exact .inl h
         ·exact .inr ⟨h,Me _ h'⟩
         ·exact .inr ⟨h,MJ _ h'⟩
        ·rintro (h|⟨h,h'⟩)
         ·exact .inl (.inl h)
         ·rcases MA.mp h' with h'|h'
          ·exact .inr ⟨h,h'⟩
          ·exact .inl (.inr ⟨h,h'⟩)
      clear I18 g1 g2 g3 g4 I4 hkw hkr dl' hle mtx mwx alB hB15 hBe hT mw17 eB19;exact⟨_,_,_,_,_,_,_,_,_,_,_,_,rfl,fin⟩
   | some j=>
    have dl':DlP ds (fs++[(aE fs j+1,some j)]):=by
     refine(I4 ()).dl.step (λ i hi hc=>?_) (λ h=>?_) (λ j' h=>?_)
     ·obtain⟨r,hr,hle⟩:=hup1 i (by rw [←hfn ()];exact hi) (by rw [←hfn ()];exact hc);have:=(hb1 j rfl).2 r hr;rw [Mz] at this;omega
     ·cases h
     ·cases h;obtain⟨k,hk,hkn,hcl⟩:=(hro ()).1 _ (hb1 j rfl).1;have:j=k:=by omega
      subst this;exact⟨by rw [hfn ()];exact hkn,by rw [hfn ()];exact hcl,rfl⟩
    have hle:∀ i,i < n->ClD (atD ds i) (atD ds n)->aE (fs++[(aE fs j+1,some j)]) i<=aE (fs++[(aE fs j+1,some j)]) n:=λ i hi hc=>NK (dl'.up n (by rw [Ml,Mv,hfn ()];omega) i hi hc);have hlevn:aE (fs++[(aE fs j+1,some j)]) n=aE fs j+1:=by have:=(mK fs (aE fs j+1,some j)).1;rw [hfn ()] at this;exact this
    have mtx:=qO (x:=(aE fs j+1,some j)) (hfn ()) (λ c k h=>h.1) (I4 ()).mt;have mwx:=qO (x:=(aE fs j+1,some j)) (hfn ()) (λ c k h=>h.1) (I4 ()).mw;have gtl:=(I4 ()).tl;have gwl:=(I4 ()).wl;exists dl';exists hle;exists hlevn;exists mtx;exists mwx
    have hjn:j < n:=by
     obtain⟨k,hk,hkn,_⟩:=(hro ()).1 _ (hb1 j rfl).1;omega
    clear hb0 hb1 hup1 hro hrs;obtain⟨qj,hqj1,hqj2⟩:=sk (alF13 ()) (k:=j) (by rw [hfn ()];exact hjn);rw [show uj (some j)=V.int (j:Int) from rfl];ac_rfl;intro q H14 hq14 e14 h14;have hf14:=e14.at hf13;have hw14:=e14.at hw13;have ht14:=e14.at ht13;have h7_14:=e14.at h7_13;have h9_14:=e14.at h9_13;have nq:∀ b o,H13 b=some o->b ≠ q:=λ b o h=>ah h hq14;have nqf:q ≠ fl:=(nq _ _ hf13).symm;have e015:Ext H (upd H14 fl (.lst (ys++[.ref q]))):=(e013.trans e14).put hf0;have hfl15:upd H14 fl (.lst (ys++[.ref q])) fl=some (.lst (ys++[.ref q])):=ag;have hw15:upd H14 fl (.lst (ys++[.ref q])) dw=some (.dK (b0 wr)):=by rw [ae nfw.symm];exact hw14
    have ht15:upd H14 fl (.lst (ys++[.ref q])) dt=some (.dK (b0 tc)):=by rw [ae nft.symm];exact ht14
    have h7_15:upd H14 fl (.lst (ys++[.ref q])) kwD=some (.dK (bM kw)):=by rw [ae nfk.symm];exact h7_14
    have h9_15:upd H14 fl (.lst (ys++[.ref q])) krD=some (.dK (bM kr)):=by rw [ae nfr.symm];exact h9_14
    have al15:Al (FnT (upd H14 fl (.lst (ys++[.ref q])))) (fs++[(aE fs j+1,some j)]) (ys++[.ref q]):=by
     refine Al.snoc ((alF13 ()).imp λ f y ⟨q1,z1,z2⟩=>⟨q1,z1,?_⟩) ⟨q,rfl,?_⟩
     ·rw [ae (λ e=>by rw [e,hf13] at z2;cases z2)];exact e14.at z2
     ·rw [ae nqf];exact h14
    exists al15;clear hf13 hw13 ht13 h7_13 h9_13 alF13 e013;ac_rfl;generalize upd H14 fl (.lst (ys++[.ref q]))=H15 at *;clear hf14 hw14 ht14 h7_14 h9_14 h14 e14 hq14 nq nqf
    have hBe:Ext H (iy [dw,dt] H15):=BE e015 λ b hb=>by
     rcases ML.mp hb with rfl|hb
     ·exact hw0
     ·rw [Mh.mp hb];exact ht0
    have hcut:∀ b o,b ≠ dw->b ≠ dt->H15 b=some o->iy [dw,dt] H15 b=some o:=λ b o h1 h2 h=>vf (by simp [h1,h2]) h;have alB:Al (FnT (iy [dw,dt] H15)) (fs++[(aE fs j+1,some j)]) (ys++[.ref q]):=(al15 ()).imp λ f y ⟨q1,z1,z2⟩=>⟨q1,z1,hcut _ _ (λ e=>by rw [e,hw15] at z2;cases z2) (λ e=>by rw [e,ht15] at z2;cases z2) z2⟩;have hBf:iy [dw,dt] H15 fl=some (.lst (ys++[.ref q])):=hcut _ _ nfw nft hfl15;have hB7:iy [dw,dt] H15 kwD=some (.dK (bM kw)):=hcut _ _ nwk.symm ntk.symm h7_15;have hB9:iy [dw,dt] H15 krD=some (.dK (bM kr)):=hcut _ _ nwr.symm ntr.symm h9_15;have hBw:iy [dw,dt] H15 dw=none:=mf (by simp);have hBt:iy [dw,dt] H15 dt=none:=mf (by simp);have hB15:Ext (iy [dw,dt] H15) H15:=vX _ _;exists alB;generalize iy [dw,dt] H15=B at *;clear hcut al15 hfl15 h7_15;refine iZ (a:=krD) (kvs:=bM kr) (λ ob i σ H'=>∃ (v11:Option V) (tc':List (Int × Int)),σ=[some (.ref p),some (.ref fl),some (.ref dw),some (.ref dt),some (.int (n:Int)),some (.ref s0),some (.ref kwD),some (.ref krD),some (.ref D1),some (.int (j:Int)),some (.int ((aE fs j:Int)+1)),v11]/\DiI (upd B krD (.frz ob (.dK (bM kr)))) H' dw dt (fs++[(aE fs j+1,some j)]) (λ c k=>(k < n/\c∈Tch (atD ds k))\/(k=n/\c∈kr.take i)) (λ c k=>k < n/\c∈WrD (atD ds k)) (80000 * n) (80000 * n+i) wr tc') h9_15 (λ ob=>⟨v11,tc,rfl,⟨md hB15 _ _,by rw [ae nwr];exact hw15,mwx (),gwl,by rw [ae ntr];exact ht15,(mtx ()).iff (λ c k=>⟨.inl,λ z=>z.elim id λ z=>absurd z.2 (by rw [N2];exact MK)⟩),gtl⟩⟩) (λ ob i σ' H' ⟨_,_,_,h⟩=>h.ex.at ag) ?_ ?_
    ·rintro ob i z _ H16 hz ⟨v11',tc',rfl,I16⟩ f16
     obtain⟨c,hc,rfl⟩:∃ c,kr[i]? = some c/\z=((Sum.inl c:Key),V.bl true):=by
      unfold bM at hz;rw [getElem?_map] at hz;obtain⟨y,h1,h2⟩:=Option.map_eq_some_iff.mp hz;exact⟨y,h1,h2.symm⟩
     rw [show kV ((Sum.inl c:Key),V.bl true).1=V.int c from rfl];have hil:i < kr.length:=(L9.mp hc).1
     have htk:∀ c' k,((k < n/\c'∈Tch (atD ds k))\/(k=n/\c'∈kr.take i))\/(k=n/\c'=c) ↔ (k < n/\c'∈Tch (atD ds k))\/(k=n/\c'∈kr.take (i+1)):=λ c' k=>by
      rw [M7,hc,MA];constructor
      ·rintro ((h|⟨h,h'⟩)|⟨h,h'⟩)
       ·exact .inl h
       ·exact .inr ⟨h,.inl h'⟩
       ·exact .inr ⟨h,.inr (by simp [h'])⟩
      ·rintro (h|⟨h,h'|h'⟩)
       ·exact .inl (.inl h)
       ·exact .inl (.inr ⟨h,h'⟩)
       ·exact .inr ⟨h,by simpa using h'⟩
     have ht16:=I16.t;have hlim:(b0 tc').length < sizeLine:=iJ (by rw [fb];have:=I16.tl;omega);have hBt':upd B krD (.frz ob (.dK (bM kr))) dt=none:=by rw [ae ntr];exact hBt
     have put16:(∀ i',(i' < n/\c∈Tch (atD ds i'))\/(i'=n/\c∈kr.take i)->aE (fs++[(aE fs j+1,some j)]) i'<=aE (fs++[(aE fs j+1,some j)]) n)->DiI (upd B krD (.frz ob (.dK (bM kr)))) (upd H16 dt (.dK (b0 (ku tc' c n)))) dw dt (fs++[(aE fs j+1,some j)]) (λ c k=>(k < n/\c∈Tch (atD ds k))\/(k=n/\c∈kr.take (i+1))) (λ c k=>k < n/\c∈WrD (atD ds k)) (80000 * n) (80000 * n+(i+1)) wr (ku tc' c n):=λ hn=>⟨I16.ex.put hBt',by rw [ae nwt];exact I16.w,I16.mw,I16.wl,ag,(I16.mt.put c n hn).iff htk,by have:=fH tc' c n;have:=I16.tl;omega⟩;exists put16;exists htk
     cases hlk:bf tc' c with
     | none=>
      have hv:(eT (b0 tc') (.inl c)).isSome=false:=by rw [bj,hlk];rfl
      have fin:=put16 () λ i' hi'=>(by obtain⟨j,hj⟩:=I16.mt.2 c i' hi';rw [hlk] at hj;cases hj);exists fin;clear hz hc I16 I4 hkw hkr dl' hle mtx mwx alB hB15 hBe f16 htk put16;ac_rfl;refine fS (k:=.inl c) ht16 ?_;rw [hv];ac_rfl;refine gG (k:=.inl c) ht16 hlim ?_;rw [cL];exact⟨_,_,rfl,fin ()⟩
     | some j=>
      have hv:(eT (b0 tc') (.inl c)).isSome=true:=by rw [bj,hlk];rfl
      have hv2:eT (b0 tc') (.inl c)=some (.int j):=by rw [bj,hlk];rfl
      obtain⟨k,rfl,hk,hmx⟩:=I16.mt.1 c j hlk
      have hkn:k < (fs++[(aE fs j+1,some j)]).length:=by
       rw [Ml,Mv,hfn ()]
       rcases hk with ⟨h,_⟩|⟨h,_⟩<;>omega
      obtain⟨q1,hq1,hq2⟩:=sk (alB ()) hkn;have nq1:q1 ≠ krD:=λ e=>by rw [e,hB9] at hq2;cases hq2
      have hq16:H16 q1=some (.tup [.int (aE (fs++[(aE fs j+1,some j)]) k:Int),uj (kA (fs++[(aE fs j+1,some j)]) k)]):=I16.ex.at (by rw [ae nq1];exact hq2);have hf16:H16 fl=some (.lst (ys++[.ref q])):=I16.ex.at (by rw [ae nfr];exact hBf)
      by_cases hlt:aE (fs++[(aE fs j+1,some j)]) k < aE fs j+1
      ·have fin:=put16 () λ i' hi'=>(by have:=hmx i' hi';rw [hlevn ()];omega);have hlti:(aE (fs++[(aE fs j+1,some j)]) k:Int) < ((aE fs j:Int)+1):=by omega
       exists fin;generalize (aE (fs++[(aE fs j+1,some j)]) k:Int)=lk at *;clear hz hc I16 I4 hkw hkr dl' hle mtx mwx alB hB15 hBe f16 htk put16 hmx hq2 hlt hk;ac_rfl;refine fS (k:=.inl c) ht16 ?_;rw [hv];ac_rfl;refine kP (k:=.inl c) ht16 hv2 ?_;ac_rfl;refine gG (k:=.inl c) ht16 hlim ?_;rw [cL];exact⟨_,_,rfl,fin ()⟩
      ·have fin:DiI (upd B krD (.frz ob (.dK (bM kr)))) H16 dw dt (fs++[(aE fs j+1,some j)]) (λ c k=>(k < n/\c∈Tch (atD ds k))\/(k=n/\c∈kr.take (i+1))) (λ c k=>k < n/\c∈WrD (atD ds k)) (80000 * n) (80000 * n+(i+1)) wr tc':=⟨I16.ex,I16.w,I16.mw,I16.wl,I16.t,(I16.mt.skip c n hlk (by rw [hlevn (),Mz];omega)).iff (htk ()),by have:=I16.tl;omega⟩;have hlti:¬ (aE (fs++[(aE fs j+1,some j)]) k:Int) < ((aE fs j:Int)+1):=by omega
       exists fin;generalize (aE (fs++[(aE fs j+1,some j)]) k:Int)=lk at *;clear hz hc I16 I4 hkw hkr dl' hle mtx mwx alB hB15 hBe f16 htk put16 hmx hq2 hlt hk;ac_rfl;refine fS (k:=.inl c) ht16 ?_;rw [hv];ac_rfl;refine kP (k:=.inl c) ht16 hv2 ?_;ac_rfl;exact⟨_,_,rfl,fin ()⟩
    ·rintro ob _ H16 ⟨v11',tc',rfl,I16⟩
     have hT:MxI (aE (fs++[(aE fs j+1,some j)])) (λ c k=>(k < n/\c∈Tch (atD ds k))\/(k=n/\c∈kr)) tc':=by
      have:=I16.mt;rw [cK,MX] at this;exact this
     have gt16:=I16.tl;rw [cK] at gt16;have eB17:Ext B (upd H16 krD (.dK (bM kr))):=Ext.thaw hB9 I16.ex;have hw17:upd H16 krD (.dK (bM kr)) dw=some (.dK (b0 wr)):=by rw [ae nwr];exact I16.w
     have ht17:upd H16 krD (.dK (bM kr)) dt=some (.dK (b0 tc')):=by rw [ae ntr];exact I16.t
     have h7_17:=eB17.at hB7;have mw17:=I16.mw;exists hT;exists mw17;generalize upd H16 krD (.dK (bM kr))=H17 at *;clear I16 hB9 hw15 ht15 h9_15;ac_rfl;refine iZ (a:=kwD) (kvs:=bM kw) (λ ob i σ H'=>∃ (v11:Option V) (wr' tc'':List (Int × Int)),σ=[some (.ref p),some (.ref fl),some (.ref dw),some (.ref dt),some (.int (n:Int)),some (.ref s0),some (.ref kwD),some (.ref krD),some (.ref D1),some (.int (j:Int)),some (.int ((aE fs j:Int)+1)),v11]/\DiI (upd B kwD (.frz ob (.dK (bM kw)))) H' dw dt (fs++[(aE fs j+1,some j)]) (λ c k=>((k < n/\c∈Tch (atD ds k))\/(k=n/\c∈kr))\/(k=n/\c∈kw.take i)) (λ c k=>(k < n/\c∈WrD (atD ds k))\/(k=n/\c∈kw.take i)) (80000 * n+i) (80000 * n+kr.length+i) wr' tc'') h7_17 (λ ob=>⟨v11',wr,tc',rfl,⟨md eB17 _ _,by rw [ae nwk];exact hw17,(mw17 ()).iff (λ c k=>⟨.inl,λ z=>z.elim id λ z=>absurd z.2 (by rw [N2];exact MK)⟩),gwl,by rw [ae ntk];exact ht17,(hT ()).iff (λ c k=>⟨.inl,λ z=>z.elim id λ z=>absurd z.2 (by rw [N2];exact MK)⟩),gt16⟩⟩) (λ ob i σ' H' ⟨_,_,_,_,h⟩=>h.ex.at ag) ?_ ?_
     ·rintro ob i z _ H18 hz ⟨v12,wr',tc'',rfl,I18⟩ f18
      obtain⟨c,hc,rfl⟩:∃ c,kw[i]? = some c/\z=((Sum.inl c:Key),V.bl true):=by
       unfold bM at hz;rw [getElem?_map] at hz;obtain⟨y,h1,h2⟩:=Option.map_eq_some_iff.mp hz;exact⟨y,h1,h2.symm⟩
      rw [show kV ((Sum.inl c:Key),V.bl true).1=V.int c from rfl];have hil:i < kw.length:=(L9.mp hc).1
      have hcW:c∈WrD (atD ds n):=by
       rw [eD ()];exact(hkw () c).mp (Mu hc)
      have htk:∀ (T:Int->Nat->Prop) c' k,(T c' k\/(k=n/\c'∈kw.take i))\/(k=n/\c'=c) ↔ T c' k\/(k=n/\c'∈kw.take (i+1)):=λ T c' k=>by
       rw [M7,hc,MA];constructor
       ·rintro ((h|⟨h,h'⟩)|⟨h,h'⟩)
        ·exact .inl h
        ·exact .inr ⟨h,.inl h'⟩
        ·exact .inr ⟨h,.inr (by simp [h'])⟩
       ·rintro (h|⟨h,h'|h'⟩)
        ·exact .inl (.inl h)
        ·exact .inl (.inr ⟨h,h'⟩)
        ·exact .inr ⟨h,by simpa using h'⟩
      have ht18:=I18.t;have hw18:upd H18 dt (.dK (b0 (ku tc'' c n))) dw=some (.dK (b0 wr')):=by rw [ae nwt];exact I18.w
      have hlim:(b0 tc'').length < sizeLine:=iJ (by rw [fb];have:=I18.tl;omega);have hlim2:(b0 wr').length < sizeLine:=iJ (by rw [fb];have:=I18.wl;omega);have hBt':upd B kwD (.frz ob (.dK (bM kw))) dt=none:=by rw [ae ntk];exact hBt
      have hBw':upd B kwD (.frz ob (.dK (bM kw))) dw=none:=by rw [ae nwk];exact hBw
      have mT:=(I18.mt.put c n λ i' hi'=>by
       rcases hi' with (⟨h,h'⟩|⟨rfl,_⟩)|⟨rfl,_⟩
       ·refine hle () i' h ?_
        rcases MA.mp h' with q|q
        ·exact .inl ⟨c,q,MJ _ hcW⟩
        ·exact .inr ⟨c,hcW,q⟩
       ·exact Mb _
       ·exact Mb _).iff (htk λ c k=>(k < n/\c∈Tch (atD ds k))\/(k=n/\c∈kr))
      have mW:=(I18.mw.put c n λ i' hi'=>by
       rcases hi' with ⟨h,h'⟩|⟨rfl,_⟩
       ·exact hle () i' h (.inl ⟨c,h',MJ _ hcW⟩)
       ·exact Mb _).iff (htk λ c k=>k < n/\c∈WrD (atD ds k))
      have fin:DiI (upd B kwD (.frz ob (.dK (bM kw)))) (upd (upd H18 dt (.dK (b0 (ku tc'' c n)))) dw (.dK (b0 (ku wr' c n)))) dw dt (fs++[(aE fs j+1,some j)]) (λ c k=>((k < n/\c∈Tch (atD ds k))\/(k=n/\c∈kr))\/(k=n/\c∈kw.take (i+1))) (λ c k=>(k < n/\c∈WrD (atD ds k))\/(k=n/\c∈kw.take (i+1))) (80000 * n+(i+1)) (80000 * n+kr.length+(i+1)) (ku wr' c n) (ku tc'' c n):=⟨(I18.ex.put hBt').put hBw',ag,mW,by have:=fH wr' c n;have:=I18.wl;omega,by rw [ae nwt.symm];exact ag,mT,by have:=fH tc'' c n;have:=I18.tl;omega⟩;exists fin;clear hz hc I18 I4 hkw hkr dl' hle mtx mwx alB hB15 hBe f18 htk mT mW hcW hT mw17;ac_rfl;refine gG (k:=.inl c) ht18 hlim ?_;rw [cL];ac_rfl;refine gG (k:=.inl c) hw18 hlim2 ?_;rw [cL];exact⟨_,_,_,rfl,fin ()⟩
     ·rintro ob _ H18 ⟨v12,wr',tc'',rfl,I18⟩;have eB19:Ext B (upd H18 kwD (.dK (bM kw))):=Ext.thaw hB7 I18.ex;have g1:=I18.wl;have g2:=I18.tl;have g3:=I18.mw;have g4:=I18.mt;rw [cK] at g1 g2 g3 g4;rw [MX] at g3 g4
      have lst:∀ {P:Nat->Prop} (k:Nat),(k < n/\P k)\/(k=n/\P n) ↔ k < n+1/\P k:=λ {P} k=>by
       constructor
       ·rintro (⟨h,h'⟩|⟨rfl,h'⟩)
        ·exact⟨by omega,h'⟩
        ·exact⟨by omega,h'⟩
       ·rintro ⟨h,h'⟩
        by_cases hk:k=n
        ·subst hk;exact .inr ⟨rfl,h'⟩
        ·exact .inl ⟨by omega,h'⟩
      have fin:DoI H (upd H18 kwD (.dK (bM kw))) ds fl dw dt (n+1) (fs++[(aE fs j+1,some j)]) wr' tc'' (ys++[.ref q]):=by
       refine⟨hBe.trans eB19,eB19.at hBf,(alB ()).imp λ _ _ h=>h.ext eB19,by rw [Ml,Mv,hfn ()],dl' (),by rw [ae nwk];exact I18.w,g3.iff λ c k=>?_,by omega,by rw [ae ntk];exact I18.t,g4.iff λ c k=>?_,by omega⟩
       ·rw [←lst (P:=λ k=>c∈WrD (atD ds k)) k,hkw () c,eD ()];exact Iff.rfl
       ·rw [←lst (P:=λ k=>c∈Tch (atD ds k)) k,hkw () c,hkr () c,eD ()];constructor
        ·rintro ((h|⟨h,h'⟩)|⟨h,h'⟩)
         ·exact .inl h
         ·exact .inr ⟨h,Me _ h'⟩
         ·exact .inr ⟨h,MJ _ h'⟩
        ·rintro (h|⟨h,h'⟩)
         ·exact .inl (.inl h)
         ·rcases MA.mp h' with h'|h'
          ·exact .inr ⟨h,h'⟩
          ·exact .inl (.inr ⟨h,h'⟩)
      clear I18 g1 g2 g3 g4 I4 hkw hkr dl' hle mtx mwx alB hB15 hBe hT mw17 eB19;exact⟨_,_,_,_,_,_,_,_,_,_,_,_,rfl,fin⟩
  ·rintro _ H4 ⟨v4,v5,v6,v7,v8,v9,v10,v11,fs,wr,tc,ys,rfl,I4⟩;have k2:=k () fl H4 I4.ex ⟨fs,ys,I4.f,I4.al,I4.nn.trans (hsd ()),I4.dl⟩;clear k;ac_rfl
def sq(fs:List (Nat × Option Nat))(M:Nat):Prop:=(∀ k,k < fs.length->aE fs k < M)/\(M=0\/∃ k,k < fs.length/\aE fs k+1=M)
theorem p6{fs:List (Nat × Option Nat)}{k:Nat}{f:Nat × Option Nat}(h:fs[k]? = some f):aE fs k=f.1:=by unfold aE;rw [getD_eq_getElem?_getD,h];rfl
theorem rF{fs:List (Nat × Option Nat)}{Q:VK}{H:Hp}(q:∀ M:Nat,sq fs M->Q (.int (M:Int)) H):u6 0 H Q (fs.map λ f=>(f.1:Int)+1):=by
 refine⟨λ h=>?_,λ M hM hle=>?_⟩
 ·have e:fs=[]:=List.map_eq_nil_iff.mp h;subst e;exact q 0 ⟨λ k hk=>absurd hk (M4 _),.inl rfl⟩
 ·obtain⟨f,hf,rfl⟩:=MM.mp hM;obtain⟨k,hk,ek⟩:=Nx hf;have hk':fs[k]? = some f:=by rw [L8 hk,ek]
  have:=q (f.1+1) ⟨λ j hj=>?_,.inr ⟨k,hk,by rw [p6 hk']⟩⟩
  ·exact this
  ·have h1:=hle _ (List.mem_map_of_mem (NN hj));rw [p6 (L8 hj)];omega
def ui(fs:List (Nat × Option Nat))(n a:Nat):List Nat:=(List.range n).filter λ k=>decide (aE fs k=a)
theorem wA(fs:List (Nat × Option Nat))(n a:Nat):ui fs (n+1) a=if aE fs n=a then ui fs n a++[n] else ui fs n a:=by
 unfold ui;rw [List.range_succ,List.filter_append]
 by_cases h:aE fs n=a
 ·rw [My h];simp [h]
 ·rw [Mw h];simp [h]
theorem qZ(fs:List (Nat × Option Nat))(n a:Nat):(ui fs n a).length<=n:=by
 have:=NL (λ k=>decide (aE fs k=a)) (List.range n);rw [MY] at this;exact this
def cz(A:List Nat):List V:=A.map λ (k:Nat)=>V.int (k:Int)
structure TdI(G H':Hp)(tl:Addr)(qs:List Addr)(fs:List (Nat × Option Nat))(n:Nat):Prop where
 ex:Ext G H'
 t:H' tl=some (.lst (qs.map V.ref))
 nd:(tl::qs).Nodup
 fr:∀ q∈tl::qs,G q=none
 ro:∀ (a:Nat) (q:Addr),qs[a]? = some q->H' q=some (.lst (cz (ui fs n a)))
def nQ(ds:List Sd)(G H:Hp)(r:Addr):Prop:=∃ (fs:List (Nat × Option Nat)) (qs:List Addr),fs.length=ds.length/\DlP ds fs/\sq fs qs.length/\TdI G H r qs fs ds.length
abbrev lE(mg:Str->Option Value)(t:Adr)(p:Addr)(H:Hp)(Q:VK)(E:XK):Prop:=∃ (room:Int) (ds:List Sd),StL t H room p ds/\ds.length<=60/\TbH mg H 476 (yB "dealt")/\∀ (r:Addr) (H':Hp),nQ ds H H' r->Q (.ref r) H'
def mq(mg:Str->Option Value)(t:Adr):Sp:=λ vs H Q E=>∃ (p:Addr),vs=[.ref p]/\(lE mg t p H Q E)
theorem cQ(mg:Str->Option Value)(t:Adr)(p:Addr)(H:Hp)(Q:VK)(E:XK):mq mg t [.ref p] H Q E=(lE mg t p H Q E):=g9 (f:=λ (p:Addr)=>[.ref p]) (λ _ _ h=>by cases h;exact rfl) p
theorem tE(mg:Str->Option Value)(t:Adr){vs:List V}{H:Hp}{Q:VK}{E:XK}(h:mq mg t vs H Q E):vs.length=1:=gb h λ _=>rfl
theorem wL(T:Tx K mg t):aW P w K mg base CX0 7 t.a_rounds t.d_rounds ["statements"] (mq mg t):=by
 have G_refuse_statements:=%[cI|41];have G_dealt:=%[iX|41];refine T.F_rounds.ok bE (λ vs H Q E h=>tE _ _ h) (λ c A o s H vs Q E hr h=>?_)
 ·obtain⟨p,rfl,room,ds,hst,hl,hTb,k⟩:=h;refine⟨_,%[%[%[refuse_statements,%[%[0|0]|1]|3],∅|16],%[%[1,bE,%[dealt,%[%[0|0]|1]|3]|4],%[%[2,bE,(@n9 _ ("max") _ _ _ _ _ _ _ _ _ _ (lr rfl) ∅ T.z_max nofun %[%[(["at", "before", "statements", "found", "many", "told", "number", "row"]),(2),(aQ (aa eA) ["statements", "found", "many", "told", "number", "row"] rfl rfl nofun),rfl,%[%[1|0]|18],(λ C s₀ H₀ ex pn=>(%[(2),rfl,%[%[(0),_,(show List.Nodup (["at", "before", "statements", "found", "many", "told", "number", "row"]:List Str) from by decide +kernel),rfl,(Or.inl rfl),%[0|7]|19],%[%[(1),_,(show List.Nodup (["at", "before", "statements", "found", "many", "told", "number", "row"]:List Str) from by decide +kernel),rfl,(Or.inl rfl),%[0|7]|19],(@bw _),∅|20],∅|20],∅,∅|31].mono λ _ _ _ _ h=>dY h)),(λ C s₀ H₀ ex pn=>(@bF _)),(λ C s₀ H₀ ex pn=>%[bB,%[0|0],%[0|2]|11]),(by intros;rfl)|28]|1] (@vF _ _ _ _ _ _ _ %[0|2] (@Be _)) ⋯ ⋯ ∅ ∅ ∅ ∅ ∅)|4],%[%[(["at", "statements", "found", "many", "told", "number", "row"]),(1),(3),_,bE.nd,rfl,(Or.inl rfl),(aQ (aa eA) ["statements", "found", "many", "told", "number", "row"] rfl rfl nofun),rfl,%[∅,T.z_range,%[%[2|0]|1],∅|33],(λ C s₀ H₀ ex pn=>%[(0),_,(show List.Nodup (["at", "statements", "found", "many", "told", "number", "row"]:List Str) from by decide +kernel),rfl,(Or.inl rfl),%[0|7]|19]),(λ C s₀ H₀ ex pn=>(@bF _)),(λ C s₀ H₀ ex pn=>%[(@aH _)|12]),∅,(by intros;rfl),%[0|7]|38],%[%[Mt,rfl,(@p0 _ _ _ _ _ _ _ _ ∅ T.z_enumerate %[%[1|0]|1] ∅),(%[(2),rfl,%[%[4,bE|5],%[%[5,bE|5],(@bw _),∅|20],∅|20],∅,∅|31].mono λ _ _ _ _ h=>dY h),%[%[%[Mo,MI,MH,bo,%[bL,%[3|0],%[bL,%[5|0],%[0|2],(λ _ _=>rfl)|14],(λ _ _=>rfl)|14],%[%[4|0]|1],∅,∅,∅,∅,∅|30],∅|16]|10],(by intros;rfl)|21],%[%[%[3|0]|13]|10]|9]|9]|9]|9]|9],?_⟩;rw [show au ["statements", "found", "many", "told", "number", "row"] [.ref p]=[some (.ref p),none,none,none,none,none] from rfl];clear G_refuse_statements G_dealt;exists k;exists hTb;exists hst;ac_rfl;rw [rQ];refine⟨room,ds,hst (),hl,λ H1 e1=>?_⟩;ac_rfl;rw [oE];refine⟨room,ds,(hst ()).ext e1,hl,(hTb ()).ext e1,λ fl H2 e2 ⟨fs,ys,hf2,al2,hfn,dl⟩=>?_⟩;have e02:=e1.trans e2;have hyl:ys.length<=60:=by rw [al2.1,hfn];exact hl
  have hfl60:fs.length<=60:=by rw [hfn];exact hl
  exists al2;exists dl;exists hfn;clear e1 e2 hst hTb;ac_rfl;have wk:=lO (K:=K) (R:=λ (f:Nat × Option Nat) y H=>FnT H f y) (λ _ _ _ _ h e=>h.ext e) hf2 (al2 ());refine bQ fs (λ _=>true) (λ f=>.int ((f.1:Int)+1)) (λ f y H'=>FnT H' f y) wk.1 wk.2 (aC %[0|8]) ?_ ?_
  ·intro D f y H' N1 N0 hz hD e ⟨q,hy,hq⟩ k1 _;subst hy;have k1':=k1 rfl H' (Ext.refl _);clear k1 k wk hz al2;simp! only [↓ji,↓aK]
  intro D3 H3 hD3 e3 h3;rw [ud,show fs.map (λ f=>V.int ((f.1:Int)+1))=(fs.map λ f=>(f.1:Int)+1).map V.int by rw [NG];rfl] at h3;have hf3:=e3.at hf2;have e03:=e02.trans e3;have al3:=λ (_:Unit)=>(al2 ()).imp λ _ _ h=>FnT.ext h e3;clear wk hf2 al2 e02;ac_rfl
  first
   | refine rF λ M hM=>?_
   | refine⟨_,rfl,rF λ M hM=>?_⟩
  have hM60:M<=60:=by
   rcases hM.2 with h|⟨k',hk,h⟩
   ·omega
   ·have:=(dl ()).lt k' hk;omega
  exists hM;clear h3;ac_rfl;refine⟨by omega,by omega,?_⟩;rw [Mz];refine AH (λ D i zs H'=>∃ qs:List Addr,zs=qs.map V.ref/\qs.length=i/\Ext H3 H'/\H' D=some (.lst zs)/\(D::qs).Nodup/\(∀ q∈D::qs,H3 q=none)/\∀ q∈qs,H' q=some (.lst [])) (λ D hD=>⟨[],rfl,rfl,Ext.new hD,ag,by simp,λ q hq=>(by rw [Mh.mp hq];exact hD),λ q hq=>by cases hq⟩) ?_ ?_
  ·rintro D i zs H4 hi ⟨qs,rfl,hql,e4,hD4,hnd,hfr,hqs⟩;have hlt:(qs.map V.ref).length < sizeLine:=iJ (by rw [Md];omega);exists hnd;exists hfr;exists hqs;clear k al3;ac_rfl;intro q H5 hq5 e5 h5;have hD5:=e5.at hD4;have nqD:q ≠ D:=(ah hD4 hq5).symm;have nqs:q ∉ qs:=λ h=>by rw [hqs () q h] at hq5;cases hq5
   have fin:∃ qs':List Addr,qs.map V.ref++[V.ref q]=qs'.map V.ref/\qs'.length=i+1/\Ext H3 (upd H5 D (.lst (qs.map V.ref++[.ref q])))/\upd H5 D (.lst (qs.map V.ref++[.ref q])) D=some (.lst (qs.map V.ref++[.ref q]))/\(D::qs').Nodup/\(∀ x∈D::qs',H3 x=none)/\∀ x∈qs',upd H5 D (.lst (qs.map V.ref++[.ref q])) x=some (.lst []):=by
    have hn:=Nh.mp (hnd ());refine⟨qs++[q],by rw [Nc];rfl,by rw [Ml,Mv,hql],(e4.trans e5).put (hfr () D Mx),ag,?_,λ x hx=>?_,λ x hx=>?_⟩
    ·rw [Nh,MA,Mh];refine⟨λ h=>h.elim hn.1 λ h=>nqD h.symm,?_⟩;rw [List.nodup_append];exact⟨hn.2,by simp,λ a ha b hb=>by rw [Mh.mp hb];exact λ e=>nqs (e ▸ ha)⟩
    ·rcases ML.mp hx with rfl|hx
     ·exact hfr () _ Mx
     ·rcases MA.mp hx with hx|hx
      ·exact hfr () x (Mp _ hx)
      ·rw [Mh.mp hx];exact e4.free hq5
    ·rcases MA.mp hx with hx|hx
     ·rw [ae (λ (e:x=D)=>hn.1 (e ▸ hx))];exact e5.at (hqs () x hx)
     ·rw [Mh.mp hx,ae nqD];exact h5
   exists fin;clear hnd hfr hqs;ac_rfl;obtain⟨qs',f1,f2,f3,f4,f5,f6,f7⟩:=fin ();exact⟨iJ %[0|8],qs',f1,f2,f3,f5,f6,f7⟩
  rintro tl _ H4 ⟨qs,rfl,hql,e4,hD4,hnd,hfr,hqs⟩;subst hql;have ini:TdI H3 H4 tl qs fs 0:=⟨e4,hD4,hnd,hfr,λ a q hq=>by rw [hqs q (Mu hq)];rfl⟩;have hf4:=e4.at hf3;clear hqs e4 hD4;ac_rfl;refine rL (l:=fl) (xs:=ys) (λ i σ H'=>∃ v4 v5:Option V,σ=[some (.ref p),some (.ref fl),some (.int (qs.length:Int)),some (.ref tl),v4,v5]/\TdI H3 H' tl qs fs i) ⟨none,none,rfl,ini⟩ (λ i σ H' ⟨_,_,_,h⟩=>h.ex.at hf3) ?_ ?_
  ·clear ini hf4 k;rintro i y q0 _ H5 H6 hi ⟨v4,v5,rfl,I5⟩ hq0 e6 hq6;have hiy:i < ys.length:=(L9.mp hi).1;have hif:i < fs.length:=by rw [←(al3 ()).1];exact hiy
   obtain⟨q,rfl,hq⟩:=(al3 ()).2 i _ y (L8 hif) hi;have hlv:=p6 (L8 hif);have hq6':=(I5.ex.trans e6).at hq;have hlM:=(hM ()).1 i hif;obtain⟨r,hr⟩:∃ r,qs[aE fs i]? = some r:=⟨_,L8 hlM⟩;have hrq:r∈qs:=Mu hr;have htl6:=e6.at I5.t;have hr6:=e6.at (I5.ro _ _ hr);have hat:atI (qs.map V.ref) (aE fs i:Int)=some (.ref r):=bA (by rw [Mq,hr];rfl);have hn:=Nh.mp hnd;have nrt:r ≠ tl:=λ e=>hn.1 (e ▸ hrq)
   have fin:TdI H3 (upd H6 r (.lst (cz (ui fs i (aE fs i))++[.int (i:Int)]))) tl qs fs (i+1):=by
    refine⟨(I5.ex.trans e6).put (hfr r (Mp _ hrq)),by rw [ae nrt.symm];exact htl6,hnd,hfr,λ a x hx=>?_⟩;rw [wA]
    by_cases ha:aE fs i=a
    ·subst ha;rw [hr] at hx;cases hx;rw [ag,if_pos rfl];unfold cz;rw [map_append];rfl
    ·have nxr:x ≠ r:=λ e=>ha (by
      subst e;have h1:aE fs i < qs.length:=hlM;have h2:a < qs.length:=(L9.mp hx).1;exact(List.getElem?_inj h1 hn.2).mp (hr.trans hx.symm))
     rw [ae nxr,Mw ha];exact e6.at (I5.ro a x hx)
   have hlt:(cz (ui fs i (aE fs i))).length < sizeLine:=iJ (by unfold cz;rw [length_map];have:=qZ fs i (aE fs i);omega);rw [←hlv] at hq6';exists fin;generalize cz (ui fs i (aE fs i))=zs at *;generalize (aE fs i:Int)=lv at *;clear hi I5 e6 hq0 hq hlv hr hM hn hnd hfr;ac_rfl;exact⟨_,_,rfl,fin ()⟩
  ·rintro _ H5 ⟨v4,v5,rfl,I5⟩;have hn:ys.length=ds.length:=by rw [(al3 ()).1];exact hfn ()
   rw [hn] at I5;have k2:=k () tl H5 ⟨fs,qs,hfn (),dl (),hM (),⟨e03.trans I5.ex,I5.t,I5.nd,λ q hq=>e03.free (I5.fr q hq),I5.ro⟩⟩;clear k;ac_rfl
abbrev Ex3:=Nat × Int × Int
def SxY(t:Adr)(H:Hp)(e:Ex3)(y:V):Prop:=∃ s,y=.ref s/\StX t H s e.1 e.2.1 e.2.2
def SxL(t:Adr)(H:Hp)(p:Addr)(es:List Ex3):Prop:=∃ ys,H p=some (.lst ys)/\Al (SxY t H) es ys
theorem SxY.ext{t:Adr}{H H':Hp}{e:Ex3}{y:V}(h:SxY t H e y)(x:Ext H H'):SxY t H' e y:=by
 obtain⟨s,h1,h2⟩:=h;exact⟨s,h1,h2.ext x⟩
theorem SxL.ext{t:Adr}{H H':Hp}{p:Addr}{es:List Ex3}(h:SxL t H p es)(x:Ext H H'):SxL t H' p es:=by
 obtain⟨ys,h1,h2⟩:=h;exact⟨ys,x.at h1,h2.imp λ _ _ q=>q.ext x⟩
def NoP(es:List Ex3):Prop:=∃ a∈es,∃ b∈es,1<=a.1/\1<=b.1/\a.2.1 ≠ b.2.1
def Lng(es:List Ex3)(n:Int):Prop:=∃ a∈es,1<=a.1/\a.2.2=n/\4096 < n
structure RfX(t:Adr)(H:Hp)(es:List Ex3)(E:XK):Prop where
 bad:60 < es.length\/NoP es\/∃ n,Lng es n
 big:60 < es.length->∀ dx H',Ext H H'->H' dx=some (.xd [("number",.int (es.length:Int))])->E (.ref t.a_TooMany) (some dx) H'
 pr:es.length<=60->NoP es->∀ H',Ext H H'->E (.ref t.a_NoPair) none H'
 lg:es.length<=60->¬ NoP es->∀ n,Lng es n->∀ dx H',Ext H H'->H' dx=some (.xd [("number",.int n)])->E (.ref t.a_TooMany) (some dx) H'
def RxI(t:Adr)(H H':Hp)(v:Addr)(es:List Ex3)(n:Nat):Prop:=∃ xs:List Addr,Ext H H'/\H' v=some (.lst (xs.map V.ref))/\xs.length<=4 * n/\(∀ x∈xs,∃ e∈es,1<=e.1/\VwN t.a_View H x e.2.1 e.2.2)/\∀ e∈es.take n,1<=e.1->∃ x∈xs,VwN t.a_View H x e.2.1 e.2.2
theorem RxI.ok{t:Adr}{H:Hp}{es:List Ex3}{xs:List Addr}(h1:∀ x∈xs,∃ e∈es,1<=e.1/\VwN t.a_View H x e.2.1 e.2.2)(h2:∀ e∈es,1<=e.1->∃ x∈xs,VwN t.a_View H x e.2.1 e.2.2){x0:Addr}(h0:x0∈xs):(RmE (rmH t.a_View H) x0 xs ↔ ¬ NoP es)/\(CnE (cnH t.a_View H) xs ↔ ¬ ∃ n,Lng es n)/\∀ n,(∃ x∈xs,cnH t.a_View H x=n/\4096 < n)->Lng es n:=by
 refine⟨⟨λ h=>?_,λ h x hx=>?_⟩,⟨λ h=>?_,λ h x hx=>?_⟩,λ n hn=>?_⟩
 ·rintro ⟨a,ha,b,hb,ha1,hb1,hne⟩;obtain⟨x,hx,vx⟩:=h2 a ha ha1;obtain⟨y,hy,vy⟩:=h2 b hb hb1;have e1:=h x hx;have e2:=h y hy;rw [vx.fn.1] at e1;rw [vy.fn.1] at e2;exact hne (e1.trans e2.symm)
 ·obtain⟨a,ha,ha1,va⟩:=h1 x hx;obtain⟨b,hb,hb1,vb⟩:=h1 x0 h0;rw [va.fn.1,vb.fn.1];exact Classical.byContradiction λ q=>h ⟨a,ha,b,hb,ha1,hb1,q⟩
 ·rintro ⟨n,a,ha,ha1,rfl,hn⟩;obtain⟨x,hx,vx⟩:=h2 a ha ha1;have:=h x hx;rw [vx.fn.2] at this;omega
 ·obtain⟨a,ha,ha1,va⟩:=h1 x hx;rw [va.fn.2];exact Int.not_lt.mp λ q=>h ⟨_,a,ha,ha1,rfl,q⟩
 ·obtain⟨x,hx,hx1,hx2⟩:=hn;obtain⟨a,ha,ha1,va⟩:=h1 x hx;rw [va.fn.2] at hx1;exact⟨a,ha,ha1,hx1,hx2⟩
abbrev oO(t:Adr)(p:Addr)(H:Hp)(Q:VK)(E:XK):Prop:=∃ es:List Ex3,SxL t H p es/\es.length<=1000/\RfX t H es E
def pN(t:Adr):Sp:=λ vs H Q E=>∃ (p:Addr),vs=[.ref p]/\(oO t p H Q E)
theorem oC(t:Adr)(p:Addr)(H:Hp)(Q:VK)(E:XK):pN t [.ref p] H Q E=(oO t p H Q E):=g9 (f:=λ (p:Addr)=>[.ref p]) (λ _ _ h=>by cases h;exact rfl) p
theorem xI(t:Adr){vs:List V}{H:Hp}{Q:VK}{E:XK}(h:pN t vs H Q E):vs.length=1:=gb h λ _=>rfl
theorem cD(T:Tx K mg t):aW P w K mg base (CX1 P  w) 5 t.a_refuse_statements t.d_refuse_statements ["statements"] (pN t):=by
 have G_views_of:=%[jG|41];have G_refuse_views:=%[iP|41];have G_TooMany___init__:=%[dg|41];refine(Fun.x T.F_refuse_statements).ok aG (λ vs H Q E h=>xI _ h) (λ c A o s H vs Q E hr h=>?_)
 ·obtain⟨p,rfl,es,⟨ys,hp,al⟩,hl,rx⟩:=h;refine⟨_,%[%[%[pF,%[len,aL,%[%[0|0]|1]|6],(@cS _ _ (.int 60) _ _ ∅ T.m_MOST_STATEMENTS.choose_spec ⟨_,rfl⟩ ⋯),(aw _)|15],%[(@nZ _ _ _ _ _ _ _ _ _ _ _ _ _ _ _ rfl ∅ T.m_TooMany T.oi_TooMany G_TooMany___init__ (hr.mono ⋯) T.b_TooMany___init__ (λ σ=>jE) %[%[len,aL,%[%[0|0]|1]|6]|1] ∅ ∅ ⋯)|10],(@ay _)|17],%[%[1,aG,%[(@aH _)|12]|4],%[%[Oi,rfl,%[%[0|0]|18],%[2,aG|5],%[%[%[Mo,Nv,Nu,fg,%[1|0],%[%[views_of,%[%[2|0]|1]|3]|1],∅,∅,∅,∅,∅|30],∅|16]|10],(by intros;rfl)|21],%[%[%[G_refuse_views,(hr.mono ⋯),∅,T.m_refuse_views,T.F_refuse_views.kp,T.b_refuse_views,.nil,ed,%[%[1|0]|1],⋯,∅,∅|39],∅|16]|10]|9]|9]|9],?_⟩;rw [show au ["statements", "views", "statement"] [.ref p]=[some (.ref p),none,none] from rfl];clear G_views_of G_refuse_views G_TooMany___init__;exists rx;exists al;have hyl:ys.length=es.length:=(al ()).1
  by_cases hlt:60 < es.length
  ·have kb:=(rx ()).big hlt;rw [←hyl] at kb;have hl2:(60:Int) < (ys.length:Int):=by omega
   clear rx al hyl;ac_rfl;exact Bw kb
  have hl2:¬ (60:Int) < (ys.length:Int):=by omega
  have h60:es.length<=60:=by omega
  exists hyl;ac_rfl;intro v H1 hv e1 h1;have ini:RxI t H H1 v es 0:=⟨[],e1,h1,MC _,λ x hx=>(by cases hx),λ e he=>absurd he (by rw [N2];exact MK)⟩;have hp1:=e1.at hp;clear h1 e1;ac_rfl;refine aZ (xs:=ys) (λ i σ H'=>∃ v2:Option V,σ=[some (.ref p),some (.ref v),v2]/\RxI t H H' v es i) ⟨none,rfl,ini⟩ (λ i σ H' _ ⟨_,_,_,e,_⟩=>e.at hp) ?_ ?_
  ·clear ini hp1;rintro i y _ H2 hi ⟨v2,rfl,xs,e2,h2,hxl,hx1,hx2⟩;obtain⟨d,hd⟩:∃ d,es[i]? = some d:=⟨_,L8 (by rw [←(al ()).1];exact(L9.mp hi).1)⟩;obtain⟨s,rfl,u,w',hs1,hs2,hs3⟩:=(al ()).2 i d y hd hi;have hil:i < 60:=by have:=(L9.mp hi).1;have:=hyl ();omega
   have wl:=qK d.1 u w';have hdm:=Mu hd;exists hx1;exists hx2;exists hd;clear hi;simp! only [↓aD];rw [jM];refine⟨d.1,u,w',hs1.ext e2,λ r H3 e3 h3=>?_⟩;have h2_3:=e3.at h2;have e03:=e2.trans e3;have hlen:(xs++(wrs d.1 u w'++rds d.1 u w')).length<=4 * (i+1):=by rw [Ml,Ml];omega
   have fin:RxI t H (upd H3 v (.lst ((xs++(wrs d.1 u w'++rds d.1 u w')).map V.ref))) v es (i+1):=by
    refine⟨_,e03.put hv,ag,hlen,λ x hx=>?_,λ e he h1e=>?_⟩
    ·rcases MA.mp hx with hx|hx
     ·exact hx1 () x hx
     ·rcases uJ hx with ⟨hw,rfl⟩|⟨hw,rfl⟩
      ·exact⟨d,hdm,hw,hs2 hw⟩
      ·exact⟨d,hdm,by omega,hs3 hw⟩
    ·rw [M7,hd ()] at he
     rcases MA.mp he with he|he
     ·obtain⟨x,hx,vx⟩:=hx2 () e he h1e;exact⟨x,MJ _ hx,vx⟩
     ·have:e=d:=by simpa using he
      subst this;exact⟨u,Me _ (JH u w' h1e),hs2 h1e⟩
   have hlim:(xs.map V.ref).length+((wrs d.1 u w'++rds d.1 u w').map V.ref).length<=sizeLine:=aC (by rw [Md,Md,Ml];omega);rw [Nc] at fin;generalize (wrs d.1 u w'++rds d.1 u w').map V.ref=ws at *;generalize xs.map V.ref=xv at *;clear hx1 hx2 e3 e2 h2 rx al;simp! only [↓aD];exact⟨_,rfl⟩
  ·rintro _ H2 ⟨v2,rfl,xs,e2,h2,hxl,hx1,hx2⟩;rw [hyl (),MX] at hx2;have hbad:NoP es\/∃ n,Lng es n:=(rx ()).bad.elim (λ h=>absurd h %[0|8]) id
   obtain⟨x0,zs,hxs⟩:∃ x0 zs,xs=x0::zs:=by
    obtain⟨a,ha,ha1⟩:∃ a∈es,1<=a.1:=by
     rcases hbad with ⟨a,ha,b,hb,ha1,_⟩|⟨n,a,ha,ha1,_⟩
     ·exact⟨a,ha,ha1⟩
     ·exact⟨a,ha,ha1⟩
    obtain⟨x,hx,_⟩:=hx2 a ha ha1
    cases xs with
    | nil=>cases hx
    | cons a b=>exact⟨a,b,rfl⟩
   subst hxs;obtain⟨i1,i2,i3⟩:=RxI.ok hx1 hx2 Mx;exists hbad;exists hx1;exists i1;exists i2;exists i3;clear hx2;ac_rfl;rw [qE];refine⟨x0,zs,rmH t.a_View H,cnH t.a_View H,h2,λ x hx=>?_,?_,λ h H3 e3=>?_,λ h n hn dx H3 e3 h3=>?_⟩
   ·obtain⟨e,_,_,vx⟩:=hx1 () x hx;obtain⟨f,A,g1,g2,g3⟩:=id vx;exact⟨f,A,by rw [vx.fn.1];exact g1.ext e2,g2,by rw [vx.fn.2];exact g3⟩
   ·rcases hbad () with h|h
    ·exact .inl λ q=>(i1 ()).mp q h
    ·exact .inr λ q=>(i2 ()).mp q h
   ·exact(rx ()).pr h60 (Classical.byContradiction λ q=>h ((i1 ()).mpr q)) H3 (e2.trans e3)
   ·exact(rx ()).lg h60 ((i1 ()).mp h) n (i3 () n hn) dx H3 (e2.trans e3) h3
abbrev jT(t:Adr)(p:Addr)(H:Hp)(Q:VK)(E:XK):Prop:=∃ es:List Ex3,SxL t H p es/\es.length<=1000/\RfX t H es E
def jn(t:Adr):Sp:=λ vs H Q E=>∃ (p:Addr),vs=[.ref p]/\(jT t p H Q E)
theorem qD(t:Adr)(p:Addr)(H:Hp)(Q:VK)(E:XK):jn t [.ref p] H Q E=(jT t p H Q E):=g9 (f:=λ (p:Addr)=>[.ref p]) (λ _ _ h=>by cases h;exact rfl) p
theorem qv(t:Adr){vs:List V}{H:Hp}{Q:VK}{E:XK}(h:jn t vs H Q E):vs.length=1:=gb h λ _=>rfl
theorem sL(T:Tx K mg t):aW P w K mg base (CX1 P  w) 7 t.a_rounds t.d_rounds ["statements"] (jn t):=by
 have G_refuse_statements:=%[cD|41];have G_dealt:=%[iX|41];refine(Fun.x T.F_rounds).ok bE (λ vs H Q E h=>qv _ h) (λ c A o s H vs Q E hr h=>?_)
 ·obtain⟨p,rfl,es,hx,hl,rx⟩:=h;refine⟨_,%[%[%[G_refuse_statements,(hr.mono ⋯),∅,T.m_refuse_statements,T.F_refuse_statements.kp,T.b_refuse_statements,.nil,ed,%[%[0|0]|1],⋯,∅,∅|39],∅|16],%[%[1,bE,%[dealt,%[%[0|0]|1]|3]|4],%[%[2,bE,(@n9 _ ("max") _ _ _ _ _ _ _ _ _ _ (lr rfl) ∅ T.z_max nofun %[%[(["at", "before", "statements", "found", "many", "told", "number", "row"]),(2),(aQ (aa eA) ["statements", "found", "many", "told", "number", "row"] rfl rfl nofun),rfl,%[%[1|0]|18],(λ C s₀ H₀ ex pn=>(%[(2),rfl,%[%[(0),_,(show List.Nodup (["at", "before", "statements", "found", "many", "told", "number", "row"]:List Str) from by decide +kernel),rfl,(Or.inl rfl),%[0|7]|19],%[%[(1),_,(show List.Nodup (["at", "before", "statements", "found", "many", "told", "number", "row"]:List Str) from by decide +kernel),rfl,(Or.inl rfl),%[0|7]|19],(@bw _),∅|20],∅|20],∅,∅|31].mono λ _ _ _ _ h=>dY h)),(λ C s₀ H₀ ex pn=>(@bF _)),(λ C s₀ H₀ ex pn=>%[bB,%[0|0],%[0|2]|11]),(by intros;rfl)|28]|1] (@vF _ _ _ _ _ _ _ %[0|2] (@Be _)) ⋯ ⋯ ∅ ∅ ∅ ∅ ∅)|4],%[%[(["at", "statements", "found", "many", "told", "number", "row"]),(1),(3),_,bE.nd,rfl,(Or.inl rfl),(aQ (aa eA) ["statements", "found", "many", "told", "number", "row"] rfl rfl nofun),rfl,%[∅,T.z_range,%[%[2|0]|1],∅|33],(λ C s₀ H₀ ex pn=>%[(0),_,(show List.Nodup (["at", "statements", "found", "many", "told", "number", "row"]:List Str) from by decide +kernel),rfl,(Or.inl rfl),%[0|7]|19]),(λ C s₀ H₀ ex pn=>(@bF _)),(λ C s₀ H₀ ex pn=>%[(@aH _)|12]),∅,(by intros;rfl),%[0|7]|38],%[%[Oi,rfl,(@p0 _ _ _ _ _ _ _ _ ∅ T.z_enumerate %[%[1|0]|1] ∅),(%[(2),rfl,%[%[4,bE|5],%[%[5,bE|5],(@bw _),∅|20],∅|20],∅,∅|31].mono λ _ _ _ _ h=>dY h),%[%[%[Mo,MI,MH,bo,%[bL,%[3|0],%[bL,%[5|0],%[0|2],(λ _ _=>rfl)|14],(λ _ _=>rfl)|14],%[%[4|0]|1],∅,∅,∅,∅,∅|30],∅|16]|10],(by intros;rfl)|21],%[%[%[3|0]|13]|10]|9]|9]|9]|9]|9],?_⟩;rw [show au ["statements", "found", "many", "told", "number", "row"] [.ref p]=[some (.ref p),none,none,none,none,none] from rfl];clear G_refuse_statements G_dealt;ac_rfl;rw [oC];exact⟨es,hx,hl,rx⟩
structure BkI(fs:List (Nat × Option Nat))(L0:Nat)(tl:List Nat)(b:Option Nat):Prop where
 lv:∀ (i k:Nat),tl[i]? = some k->k < fs.length/\aE fs k+i=L0
 nx:∀ (i k:Nat),tl[i]? = some k->(tl++b.toList)[i+1]? = kA fs k
 sm:∀ k,b=some k->k < fs.length/\aE fs k+tl.length=L0
 no:b=none->tl.length=L0+1
def IM(fs:List (Nat × Option Nat))(cs:List Nat):Prop:=∀ (i k:Nat),cs[i]? = some k->k < fs.length/\aE fs k=i/\∀ j,i=j+1->cs[j]? = kA fs k
theorem BkI.step{ds:List Sd}{fs:List (Nat × Option Nat)}{L0:Nat}{tl:List Nat}{k:Nat}(dl:DlP ds fs)(h:BkI fs L0 tl (some k)):BkI fs L0 (tl++[k]) (kA fs k):=by
 obtain⟨hk,hl⟩:=h.sm k rfl;refine⟨λ i x hx=>?_,λ i x hx=>?_,λ j hj=>?_,λ hb=>?_⟩
 ·by_cases hi:i < tl.length
  ·rw [MN hi] at hx;exact h.lv i x hx
  ·have:i=tl.length:=by
    have:=(L9.mp hx).1;rw [Ml,Mv] at this;omega
   subst this;rw [MG (Mb _),OC] at hx;cases hx;exact⟨hk,hl⟩
 ·by_cases hi:i < tl.length
  ·rw [MN hi] at hx;have:=h.nx i x hx;rw [←this,MN (by rw [Ml,Mv];omega)];rfl
  ·have:i=tl.length:=by
    have:=(L9.mp hx).1;rw [Ml,Mv] at this;omega
   subst this;rw [MG (Mb _),OC] at hx;cases hx;rw [MG (by rw [Ml,Mv];omega),Ml,Mv,OC]
   cases kA fs k<;>rfl
 ·obtain⟨q1,q2,q3⟩:=(dl.bef k hk).2 j hj;rw [Ml,Mv];exact⟨by omega,by omega⟩
 ·have:=(dl.bef k hk).1 hb;rw [Ml,Mv];omega
theorem BkI.rev{fs:List (Nat × Option Nat)}{L0:Nat}{tl:List Nat}(h:BkI fs L0 tl none):IM fs tl.reverse:=by
 intro i k hk;have hi:i < tl.length:=by have:=(L9.mp hk).1;rwa [OJ] at this
 rw [List.getElem?_reverse hi] at hk;obtain⟨h1,h2⟩:=h.lv _ k hk;have hn:=h.no rfl;refine⟨h1,by omega,λ j hj=>?_⟩;have h3:=h.nx _ k hk;rw [List.getElem?_reverse %[0|8],←h3];rw [show tl.length - 1 - i+1=tl.length - 1 - j by omega]
 show _=(tl++[])[_]?
 rw [Oq]
theorem zJ(A:List Nat):(cz A).reverse=cz A.reverse:=by unfold cz;rw [List.map_reverse]
def WkI(fs:List (Nat × Option Nat))(tl:List Nat)(b:Option Nat):Prop:=(fs.length=0/\tl=[]/\b=none)\/∃ L0,L0<=60/\(∀ k,k < fs.length->aE fs k<=L0)/\BkI fs L0 tl b
def Jh(fs:List (Nat × Option Nat)):Option Nat->Nat
 | none=>0
 | some k=>aE fs k+1
theorem WkI.step{ds:List Sd}{fs:List (Nat × Option Nat)}{tl:List Nat}{k:Nat}(dl:DlP ds fs)(h:WkI fs tl (some k)):k < fs.length/\tl.length<=60/\WkI fs (tl++[k]) (kA fs k)/\Jh fs (kA fs k) < Jh fs (some k):=by
 rcases h with ⟨_,_,h⟩|⟨L0,h0,h1,h2⟩
 ·cases h
 ·obtain⟨hk,hl⟩:=h2.sm k rfl;refine⟨hk,by omega,.inr ⟨L0,h0,h1,h2.step dl⟩,?_⟩
  cases hb:kA fs k with
  | none=>exact Nat.succ_pos _
  | some j=>
   obtain⟨_,_,q3⟩:=(dl.bef k hk).2 j hb
   show aE fs j+1 < aE fs k+1
   omega
theorem WkI.many{fs:List (Nat × Option Nat)}{tl:List Nat}(h:WkI fs tl none):sq fs tl.reverse.length/\IM fs tl.reverse:=by
 rw [OJ]
 rcases h with ⟨h0,rfl,_⟩|⟨L0,_,h1,h2⟩
 ·exact⟨⟨λ k hk=>by omega,.inl rfl⟩,λ i k hk=>by cases hk⟩
 ·have hn:=h2.no rfl;refine⟨⟨λ k hk=>by have:=h1 k hk;omega,.inr ?_⟩,h2.rev⟩;have h0:0 < tl.length:=by omega
  obtain⟨q1,q2⟩:=h2.lv 0 _ (L8 h0);exact⟨_,q1,by omega⟩
theorem Gi:uj none=.non:=rfl
theorem Gh(k:Nat):uj (some k)=.int (k:Int):=rfl
abbrev oW(mg:Str->Option Value)(t:Adr)(p:Addr)(H:Hp)(Q:VK)(E:XK):Prop:=∃ (room:Int) (ds:List Sd),StL t H room p ds/\ds.length<=60/\TbH mg H 476 (yB "dealt")/\TbH mg H 486 (yB "chain")/\∀ (r:Addr) (H':Hp) (cs:List Nat) (fs:List (Nat × Option Nat)),Ext H H'->H' r=some (.lst (cz cs))->fs.length=ds.length->DlP ds fs->sq fs cs.length->IM fs cs->Q (.ref r) H'
def pV(mg:Str->Option Value)(t:Adr):Sp:=λ vs H Q E=>∃ (p:Addr),vs=[.ref p]/\(oW mg t p H Q E)
theorem fh(mg:Str->Option Value)(t:Adr)(p:Addr)(H:Hp)(Q:VK)(E:XK):pV mg t [.ref p] H Q E=(oW mg t p H Q E):=g9 (f:=λ (p:Addr)=>[.ref p]) (λ _ _ h=>by cases h;exact rfl) p
theorem xS(mg:Str->Option Value)(t:Adr){vs:List V}{H:Hp}{Q:VK}{E:XK}(h:pV mg t vs H Q E):vs.length=1:=gb h λ _=>rfl
theorem zI(T:Tx K mg t):aW P w K mg base CX0 7 t.a_chain t.d_chain ["statements"] (pV mg t):=by
 have G_refuse_statements:=%[cI|41];have G_dealt:=%[iX|41];refine T.F_chain.okC dG (λ vs H Q E h=>xS _ _ h) (λ cdv A outer s H vs Q E hcd hr h=>?_)
 ·obtain⟨p,rfl,room,ds,hst,hl,hTb,hTc,k⟩:=h;have hLam:BP K cdv 486:=by rw [hcd];exact T.lt_chain
  refine⟨_,%[%[%[refuse_statements,%[%[0|0]|1]|3],∅|16],%[(@dX _ _ (1) _ _ _ _ dG.nd rfl (Or.inr rfl) %[dealt,%[%[0|0]|1]|3] ∅ %[0|7]),%[%[2,dG,%[(@aH _)|12]|4],%[%[3,dG,(@p4 _ (1) (0) ("k") _ _ _ _ _ _ _ _ _ _ _ _ _ _ _ rfl (hr.mono ⋯) ∅ T.z_max %[(@fA _ _ _ _ _ _ _ rfl ∅ T.z_list ∅ T.z_range %[%[len,aL,%[%[1|0]|1]|6]|1] ∅ ∅ ∅)|1] hLam nofun (λ A' f' c' cl' s' H'=>%[bL,%[bL,%[1|0],%[0|0],(λ _ _=>rfl)|14],%[0|2],(λ _ _=>rfl)|14]) ∅ ∅ ∅ ⋯ ∅ ∅ ∅ ∅ (by intros;rfl) ∅ ∅ ∅ ∅ ∅)|4],%[(@rn _ _ _ _ _ _ Mt %[rA,%[3|0],(@uW _ _ _),(aw _)|15] %[%[%[Mo,MI,MH,bo,%[2|0],%[%[3|0]|1],∅,∅,∅,∅,∅|30],∅|16],%[%[3,dG,%[bL,%[bL,%[1|0],%[3|0],(λ _ _=>rfl)|14],%[0|2],(λ _ _=>rfl)|14]|4]|10]|9]),%[%[(@Bf _ _ _ _ _ _ _ _ _ Mo PySem.F.slot_list_reverse PySem.F.type_list_reverse kZ %[2|0] ∅ ∅),∅|16],%[%[%[2|0]|13]|10]|9]|9]|9]|9]|9]|9],?_⟩;rw [show au ["statements", "found", "told", "number"] [.ref p]=[some (.ref p),none,none,none] from rfl];clear G_refuse_statements G_dealt hLam hcd;exists k;exists hTb;exists hTc;exists hst;ac_rfl;rw [rQ];refine⟨room,ds,hst (),hl,λ H1 e1=>?_⟩;ac_rfl;rw [oE];refine⟨room,ds,(hst ()).ext e1,hl,(hTb ()).ext e1,λ fl H2 e2 ⟨fs,ys,hf2,al2,hfn,dl⟩=>?_⟩;have e02:=e1.trans e2;have hyl:ys.length=fs.length:=al2.1;have hy60:ys.length<=60:=by rw [hyl,hfn];exact hl
  have hrg:-4611686018427387904<=(ys.length:Int)/\(ys.length:Int) < 4611686018427387904:=⟨by omega,by omega⟩;exists al2;exists dl;exists hfn;exists hyl;clear e1 e2 hst hTb;ac_rfl;intro tl H3 htl e3 h3;have hf3:=e3.at hf2;have nft:fl ≠ tl:=ah hf2 htl;have ht0:H tl=none:=e02.free htl;ac_rfl;rw [EZ];refine⟨ON _,by omega,?_⟩;ac_rfl;intro rg H4 hrg0 e4 h4
  have hr4:H4 rg=some (.lst (((List.range ys.length).map λ (k:Nat)=>(k:Int)).map V.int)):=by
   rw [h4];unfold AS;rw [Int.toNat_natCast,map_map];rfl
  have e24:=e3.trans e4;have hf4:=e4.at hf3;have ht4:=e4.at h3
  have hmem:∀ x∈(List.range ys.length).map (λ (k:Nat)=>(k:Int)),∃ k:Nat,x=(k:Int)/\k < fs.length:=λ x hx=>by
   obtain⟨k,hk,rfl⟩:=MM.mp hx;exact⟨k,rfl,by rw [←hyl ()];exact Ng.mp hk⟩
  clear h4 hf3 h3;refine qW (xs:=(List.range ys.length).map λ (k:Nat)=>(k:Int)) (λ x=>(aE fs x.toNat:Int)) hr4 ∅ ((hTc ()).ext (e02.trans e24)) (λ x hx=>?_) (λ x hx H' e' Q' q'=>?_) (λ b hb0 hb1 H5 e5=>?_)
  ·obtain⟨k,rfl,_⟩:=hmem x hx;exact ON _
  ·obtain⟨k,rfl,hk⟩:=hmem x hx;obtain⟨q,hq1,hq2⟩:=sk (al2 ()) hk;have hf':=e'.at hf4;have hq':=e'.at (e24.at hq2);rw [Mz] at q';have hys:ys.length < sizeLine:=iJ %[0|8];clear hx hmem al2 hq2 hf4 hr4;ac_rfl
  have hw:WkI fs [] b:=by
   cases b with
   | none=>
    refine .inl ⟨?_,rfl,rfl⟩;have:=NI List.length (hb0 rfl);rw [Md,MY] at this;rw [←hyl ()];exact this
   | some j=>
    obtain⟨hj,hm⟩:=hb1 j rfl;obtain⟨j',ej,hj'⟩:=hmem _ hj;have ejj:j=j':=Int.ofNat.inj ej;subst ejj;have hll:=(dl ()).lt j hj';refine .inr ⟨aE fs j,by have:=hfn ();omega,λ k hk=>?_,⟨λ i k h=>(by cases h),λ i k h=>(by cases h),λ k h=>?_,λ h=>by cases h⟩⟩
    ·have:=hm (k:Int) (MM.mpr ⟨k,Ng.mpr (by rw [hyl ()];exact hk),rfl⟩);rw [Mz,Mz] at this;omega
    ·cases h;exact⟨hj',rfl⟩
  have e25:=e24.trans e5;have ht5:=e5.at ht4;clear hb0 hb1 hmem hr4 hf4 ht4 e3 e4 e5 e24;ac_rfl;refine Cg (by repeat' first|exact JV|exact mo_nI0|exact mo_nI|apply zN|apply mo_unN|exact Bl|exact LK|exact mo_rI0|exact mo_rI|exact mo_rIsN|exact zM|exact mo_qEq|exact mo_qIx|exact mo_nil|exact mo_qLen|exact mo_inD|exact mo_qLenD|apply mo_dget2|apply vL|apply mo_tB|apply mo_not|apply mo_and|apply mo_or|apply JW|apply mo_un|apply mo_cons|apply mo_qLst|apply mo_cb) (λ m σ H'=>∃ (tls:List Nat) (bb:Option Nat),σ=[some (.ref p),some (.ref fl),some (.ref tl),some (uj bb)]/\m=Jh fs bb/\Ext H2 H'/\H' tl=some (.lst (cz tls))/\WkI fs tls bb) _ ⟨[],b,rfl,rfl,e25,ht5,hw⟩ ?_;rintro m σ H' ⟨tls,bb,rfl,rfl,e2',ht',hw'⟩
  cases bb with
  | none=>
   obtain⟨q1,q2⟩:=hw'.many;clear hw' hw ht5 e25;have e0':=e02.trans e2';simp! only [↓Gi];rw [zJ];exact k () _ _ _ _ (e0'.put ht0) ag (hfn ()) (dl ()) q1 q2
  | some kk=>
   obtain⟨hk,hlt,hw2,hm2⟩:=hw'.step (dl ());obtain⟨q,hq1,hq2⟩:=sk (al2 ()) hk;have hf':=e2'.at hf2;have hq':=e2'.at hq2;have nqt:q ≠ tl:=ah hq2 htl;have hys:ys.length < sizeLine:=iJ %[0|8];have htl':(cz tls).length < sizeLine:=by unfold cz;rw [length_map];exact iJ %[0|8]
   clear hw' hw hq2 hf2 ht5 e25;simp! only [↓Gh];have e2n:Ext H2 (upd H' tl (.lst (cz tls++[V.int (kk:Int)]))):=e2'.put htl;have hfn':upd H' tl (.lst (cz tls++[V.int (kk:Int)])) fl=some (.lst ys):=by rw [ae nft];exact hf'
   have hqn':upd H' tl (.lst (cz tls++[V.int (kk:Int)])) q=some (.tup [.int (aE fs kk:Int),uj (kA fs kk)]):=by rw [ae nqt];exact hq'
   have htn':upd H' tl (.lst (cz tls++[V.int (kk:Int)])) tl=some (.lst (cz (tls++[kk]))):=by rw [ag];unfold cz;rw [map_append];rfl
   clear hq' hf' ht' htl';generalize upd H' tl (.lst (cz tls++[V.int (kk:Int)]))=H6 at *;ac_rfl;exact⟨_,hm2,tls++[kk],_,rfl,rfl,e2n,rfl,hw2⟩
theorem AB{P:Program}{w:World}{K:W.Frag}{mg:Str->Option Value}{base:Heap}{CX:CXT}{x qual:Str}{st:Stmt}{f:Addr}{fd:FuncData}{N ps:List Str}{k:Nat}{sp:Sp}(F:IL K x qual st f fd)(S:aj N ps (aa st))(len:∀ vs H Q E,sp vs H Q E->vs.length=ps.length)
  (hbody:∀ (cdv:Value) (A:Around) (outer:List Env) (s:Shared) (H:Hp) (vs:List V) (Q:VK) (E:XK),cdv=fd.code->fE k (A.deeper (PyProof.Rows.envOfC qual (aa st) s.heap.objs.size f cdv))->sp vs H Q E →
   ∃ t,PSs (r6 CX P w K mg base N qual (aa st) f cdv A outer s H E) (cj st) t/\t { nx:=λ _ H'=>Q .non H',rt:=Q } (au N vs) H):aW P w K mg base CX (k+1) f fd ps sp:=by
 obtain⟨oc,od,dV,kV,doc,pm,an,cdv,ct,osl,rfl,lk,hcd⟩:=F.ex;exact yX lk hcd S len λ A outer s H vs Q E hr hsp=>hbody cdv A outer s H vs Q E rfl hr hsp
abbrev lM(t:Adr)(p:Addr)(H:Hp)(Q:VK)(E:XK):Prop:=∃ es:List Ex3,SxL t H p es/\es.length<=1000/\RfX t H es E
def mF(t:Adr):Sp:=λ vs H Q E=>∃ (p:Addr),vs=[.ref p]/\(lM t p H Q E)
theorem tZ(t:Adr)(p:Addr)(H:Hp)(Q:VK)(E:XK):mF t [.ref p] H Q E=(lM t p H Q E):=g9 (f:=λ (p:Addr)=>[.ref p]) (λ _ _ h=>by cases h;exact rfl) p
theorem tN(t:Adr){vs:List V}{H:Hp}{Q:VK}{E:XK}(h:mF t vs H Q E):vs.length=1:=gb h λ _=>rfl
theorem wM(T:Tx K mg t):aW P w K mg base (CX1 P  w) 7 t.a_chain t.d_chain ["statements"] (mF t):=by
 have G_refuse_statements:=%[cD|41];have G_dealt:=%[iX|41];refine AB (Fun.x T.F_chain) dG (λ vs H Q E h=>tN _ h) (λ cdv A outer s H vs Q E hcd hr h=>?_)
 ·obtain⟨p,rfl,es,hx,hl,rx⟩:=h;have hLam:BP K cdv 486:=by rw [hcd];exact T.lt_chain
  refine⟨_,%[%[%[G_refuse_statements,(hr.mono ⋯),∅,T.m_refuse_statements,T.F_refuse_statements.kp,T.b_refuse_statements,.nil,ed,%[%[0|0]|1],⋯,∅,∅|39],∅|16],%[(@dX _ _ (1) _ _ _ _ dG.nd rfl (Or.inr rfl) %[dealt,%[%[0|0]|1]|3] ∅ %[0|7]),%[%[2,dG,%[(@aH _)|12]|4],%[%[3,dG,(@p4 _ (1) (0) ("k") _ _ _ _ _ _ _ _ _ _ _ _ _ _ _ rfl (hr.mono ⋯) ∅ T.z_max %[(@fA _ _ _ _ _ _ _ rfl ∅ T.z_list ∅ T.z_range %[%[len,aL,%[%[1|0]|1]|6]|1] ∅ ∅ ∅)|1] hLam nofun (λ A' f' c' cl' s' H'=>%[bL,%[bL,%[1|0],%[0|0],(λ _ _=>rfl)|14],%[0|2],(λ _ _=>rfl)|14]) ∅ ∅ ∅ ⋯ ∅ ∅ ∅ ∅ (by intros;rfl) ∅ ∅ ∅ ∅ ∅)|4],%[(@rn _ _ _ _ _ _ Oi %[rA,%[3|0],(@uW _ _ _),(aw _)|15] %[%[%[Mo,MI,MH,bo,%[2|0],%[%[3|0]|1],∅,∅,∅,∅,∅|30],∅|16],%[%[3,dG,%[bL,%[bL,%[1|0],%[3|0],(λ _ _=>rfl)|14],%[0|2],(λ _ _=>rfl)|14]|4]|10]|9]),%[%[(@Bf _ _ _ _ _ _ _ _ _ Mo PySem.F.slot_list_reverse PySem.F.type_list_reverse kZ %[2|0] ∅ ∅),∅|16],%[%[%[2|0]|13]|10]|9]|9]|9]|9]|9]|9],?_⟩;rw [show au ["statements", "found", "told", "number"] [.ref p]=[some (.ref p),none,none,none] from rfl];clear G_refuse_statements G_dealt hLam hcd;exists rx;exists hx;ac_rfl;rw [oC];exact⟨es,hx (),hl,rx ()⟩
def DrS(H:Hp)(room:Int)(d:Sd)(y:V):Prop:=∃ (p:Addr) (f1:Int) (A1:List (Int × Int)) (f2:Int) (A2:List (Int × Int)),y=.ref p/\DrA H p room d.1 f1 A1 f2 A2/\d.2.2.1=ai f1 A1/\d.2.2.2=ai f2 A2
theorem DrS.ext{H H':Hp}{room:Int}{d:Sd}{y:V}(h:DrS H room d y)(e:Ext H H'):DrS H' room d y:=by
 obtain⟨p,f1,A1,f2,A2,h1,h2,h3⟩:=h;exact⟨p,f1,A1,f2,A2,h1,h2.ext e,h3⟩
def DsL(H:Hp)(room:Int)(p:Addr)(ds:List Sd):Prop:=∃ ys,H p=some (.lst ys)/\Al (DrS H room) ds ys
theorem DsL.ext{H H':Hp}{room:Int}{p:Addr}{ds:List Sd}(h:DsL H room p ds)(e:Ext H H'):DsL H' room p ds:=by
 obtain⟨ys,h1,h2⟩:=h;exact⟨ys,e.at h1,h2.imp λ _ _ q=>q.ext e⟩
theorem DsL.at'{H:Hp}{room:Int}{ds:List Sd}{ys:List V}(al:Al (DrS H room) ds ys){k:Nat}(hk:k < ds.length):∃ (p:Addr) (f1:Int) (A1:List (Int × Int)) (f2:Int) (A2:List (Int × Int)),atI ys (k:Int)=some (.ref p)/\DrA H p room (atD ds k).1 f1 A1 f2 A2/\(atD ds k).2.2.1=ai f1 A1/\(atD ds k).2.2.2=ai f2 A2:=by
 have hy:k < ys.length:=by rw [al.1];exact hk
 obtain⟨p,f1,A1,f2,A2,h1,h2⟩:=al.2 k _ _ (getElem?_eq_getElem hk) (getElem?_eq_getElem hy);refine⟨p,f1,A1,f2,A2,bA (by rw [getElem?_eq_getElem hy,h1]),?_⟩;unfold atD;rw [getD_eq_getElem?_getD,getElem?_eq_getElem hk];exact h2
def bK(L:List Nat)(k:Nat):Nat:=L.getD k 0
def LvS(ds:List Sd)(L:Nat->Nat)(n:Nat):Prop:=∀ k,k < n->(∀ i,i < k->ClD (atD ds i) (atD ds k)->L i < L k)/\(L k=0\/∃ i,i < k/\ClD (atD ds i) (atD ds k)/\L k=L i+1)
theorem LvS.le{ds:List Sd}{L M:Nat->Nat}{n:Nat}(h:LvS ds L n)(h':LvS ds M n):∀ k,k < n->L k=M k:=by
 intro k
 induction k using Nat.strongRecOn with
 | _ k ih=>
  intro hk;obtain⟨a1,a2⟩:=h k hk;obtain⟨b1,b2⟩:=h' k hk;refine Nat.le_antisymm ?_ ?_
  ·rcases a2 with a2|⟨i,hi,hc,he⟩
   ·omega
   ·have:=b1 i hi hc;have:=ih i hi %[0|8];omega
  ·rcases b2 with b2|⟨i,hi,hc,he⟩
   ·omega
   ·have:=a1 i hi hc;have:=ih i hi %[0|8];omega
theorem DlP.lv{ds:List Sd}{fs:List (Nat × Option Nat)}(h:DlP ds fs):LvS ds (aE fs) fs.length:=λ k hk=>by
 refine⟨λ i hi hc=>h.up k hk i hi hc,?_⟩
 cases hb:kA fs k with
 | none=>exact .inl ((h.bef k hk).1 hb)
 | some j=>exact .inr ⟨j,(h.bef k hk).2 j hb⟩
theorem gK{L:List Nat}{a k:Nat}(h:k < L.length):bK (L++[a]) k=bK L k:=by
 unfold bK;rw [getD_eq_getElem?_getD,getD_eq_getElem?_getD,getElem?_append_left h]
theorem Ae(L:List Nat)(a:Nat):bK (L++[a]) L.length=a:=by
 unfold bK;rw [getD_eq_getElem?_getD,getElem?_append_right (Nat.le_refl _),Nat.sub_self];rfl
theorem LvS.snoc{ds:List Sd}{L:List Nat}{a:Nat}(h:LvS ds (bK L) L.length)(h1:∀ i,i < L.length->ClD (atD ds i) (atD ds L.length)->bK L i < a)(h2:a=0\/∃ i,i < L.length/\ClD (atD ds i) (atD ds L.length)/\a=bK L i+1):LvS ds (bK (L++[a])) (L++[a]).length:=λ k hk=>by
 rw [Ml,Mv] at hk
 by_cases hk':k < L.length
 ·rw [gK hk'];obtain⟨q1,q2⟩:=h k hk';refine⟨λ i hi hc=>by rw [gK (Ny hi hk')];exact q1 i hi hc,?_⟩
  rcases q2 with q2|⟨i,hi,hc,he⟩
  ·exact .inl q2
  ·exact .inr ⟨i,hi,hc,by rw [gK (Ny hi hk')];exact he⟩
 ·have:k=L.length:=by omega
  subst this;rw [Ae];refine⟨λ i hi hc=>by rw [gK hi];exact h1 i hi hc,?_⟩
  rcases h2 with h2|⟨i,hi,hc,he⟩
  ·exact .inl h2
  ·exact .inr ⟨i,hi,hc,by rw [gK hi];exact he⟩
theorem jh{L:List Nat}{k:Nat}(h:k < L.length):atI (cz L) (k:Int)=some (.int (bK L k:Int)):=by
 refine bA ?_;unfold cz bK;rw [getElem?_map,getD_eq_getElem?_getD,getElem?_eq_getElem h];rfl
theorem fK(L:List Nat):(cz L).length=L.length:=by unfold cz;rw [length_map]
theorem wO(L:List Nat)(a:Nat):cz L++[V.int (a:Int)]=cz (L++[a]):=by unfold cz;rw [map_append];rfl
theorem LvS.lt{ds:List Sd}{L:Nat->Nat}{n:Nat}(h:LvS ds L n):∀ k,k < n->L k<=k:=by
 intro k
 induction k using Nat.strongRecOn with
 | _ k ih=>
  intro hk
  rcases (h k hk).2 with a|⟨i,hi,_,he⟩
  ·omega
  ·have:=ih i hi %[0|8];omega
abbrev lH  (p:Addr) (H:Hp) (Q:VK) (E:XK):Prop:=∃ (room:Int) (ds:List Sd),DsL H room p ds/\ds.length<=60/\∀ (r:Addr) (H':Hp) (L:List Nat),Ext H H'->H r=none->H' r=some (.lst (cz L))->L.length=ds.length->LvS ds (bK L) L.length->Q (.ref r) H'
def mz  : Sp:=λ vs H Q E=>∃ (p:Addr),vs=[.ref p]/\(lH  p H Q E)
theorem tX  (p:Addr) (H:Hp) (Q:VK) (E:XK):mz  [.ref p] H Q E=(lH  p H Q E):=g9 (f:=λ (p:Addr)=>[.ref p]) (λ _ _ h=>by cases h;exact rfl) p
theorem tI  {vs:List V}{H:Hp}{Q:VK}{E:XK}(h:mz  vs H Q E):vs.length=1:=gb h λ _=>rfl
theorem kD(T:Tx K mg t):aW P w K mg base CX0 4 t.a__law_levels t.d__law_levels ["_law_drawn_here"] mz:=by
 have G__law_clash:=%[gT|41];refine T.F__law_levels.ok bz (λ vs H Q E h=>tI h) (λ cdv A' outer s H vs Q E hr h=>?_)
 ·obtain⟨p,rfl,room,ds,⟨ys,hp,al⟩,hl,k⟩:=h;refine⟨_,%[%[1,bz,%[(@aH _)|12]|4],%[%[Mt,rfl,%[∅,T.z_range,%[%[len,aL,%[%[0|0]|1]|6]|1],∅|33],%[2,bz|5],%[%[3,bz,%[0|2]|4],%[%[Mt,rfl,%[∅,T.z_range,%[%[2|0]|1],∅|33],%[4,bz|5],%[%[(PW.pt %[%[Fi,%[bL,%[1|0],%[4|0],(λ _ _=>rfl)|14],%[3|0],(aw _)|15],(@jg _ _ _ _ %[%[_law_clash,%[%[bL,%[0|0],%[4|0],(λ _ _=>rfl)|14],%[%[bL,%[0|0],%[2|0],(λ _ _=>rfl)|14]|1]|1]|3],(by intros;rfl)|26])|37]),%[%[3,bz,%[bB,%[bL,%[1|0],%[4|0],(λ _ _=>rfl)|14],%[0|2]|11]|4]|10],(@ay _)|17]|10],(by intros;rfl)|21],%[%[%[Mo,MI,MH,bo,%[1|0],%[%[3|0]|1],∅,∅,∅,∅,∅|30],∅|16]|10]|9]|9],(by intros;rfl)|21],%[%[%[1|0]|13]|10]|9]|9],?_⟩;rw [show au ["_law_drawn_here", "_law_levels_here", "_law_k", "_law_level", "_law_j"] [.ref p]=[some (.ref p),none,none,none,none] from rfl];clear G__law_clash;exists k;have hyl:ys.length=ds.length:=al.1;have hy60:ys.length<=60:=by omega
  have hrg:-4611686018427387904<=(ys.length:Int)/\(ys.length:Int) < 4611686018427387904:=⟨by omega,by omega⟩;have hyz:ys.length < sizeLine:=iJ %[0|8];exists al;exists hyl;ac_rfl;intro lv H1 hlv e1 h1;have hp1:=e1.at hp;ac_rfl;refine ia (λ n σ H'=>∃ (v2 v3 v4:Option V) (L:List Nat),σ=[some (.ref p),some (.ref lv),v2,v3,v4]/\Ext H H'/\H' lv=some (.lst (cz L))/\L.length=n/\LvS ds (bK L) L.length) ⟨none,none,none,[],rfl,e1,h1,rfl,λ k hk=>absurd hk (M4 _)⟩ ?_ ?_
  ·clear h1 hp1 e1;rintro n _ H2 hn ⟨v2,v3,v4,L,rfl,e2,h2,hLn,hL⟩;have hn':n < ys.length:=by omega
   have hnr:-4611686018427387904<=(n:Int)/\(n:Int) < 4611686018427387904:=⟨by omega,by omega⟩;exists hL;have hz0:(0+(n:Int)).toNat=n:=by omega
   have hz1:0+(n:Int)=(n:Int):=by omega
   simp! only [↓aD];refine ia (λ j σ H'=>∃ (v4:Option V) (a:Nat),σ=[some (.ref p),some (.ref lv),some (.int (n:Int)),some (.int (a:Int)),v4]/\Ext H2 H'/\a<=n/\(∀ i,i < j->ClD (atD ds i) (atD ds n)->bK L i < a)/\(a=0\/∃ i,i < j/\ClD (atD ds i) (atD ds n)/\a=bK L i+1)) ⟨v4,0,rfl,Ext.refl _,MC _,λ i hi=>absurd hi (M4 _),.inl rfl⟩ ?_ ?_
   ·clear k hz0;rintro j _ H3 hj ⟨v4',a,rfl,e3,ha,hb,hc⟩;have hjL:j < L.length:=by omega
    have h2_3:=e3.at h2;have hp3:=(e2.trans e3).at hp;obtain⟨p1,f1,A1,f2,A2,q1,q2,q3,q4⟩:=DsL.at' (al ()) (k:=j) (by have:=hyl ();omega);obtain⟨p2,g1,B1,g2,B2,u1,u2,u3,u4⟩:=DsL.at' (al ()) (k:=n) (by have:=hyl ();omega);have hz2:0+(j:Int)=(j:Int):=by omega
    have hjn:=jh hjL;have hLz:(cz L).length < sizeLine:=by rw [fK];exact iJ %[0|8]
    have hlj:=(hL ()).lt j hjL;have hrb:∀ z:Nat,z<=100->-4611686018427387904<=(z:Int)/\(z:Int) < 4611686018427387904:=λ z hz=>⟨by omega,by omega⟩;have hr1:=hrb (bK L j) %[0|8];have hr2:=hrb a %[0|8];have e23:=e2.trans e3;exists hb;exists hc;exists q2;exists u2;exists q3;exists q4;exists u3;exists u4;clear hp h2 hrb e2
    by_cases hle:a<=bK L j
    ·have hle':(a:Int)<=(bK L j:Int):=by omega
     simp! only [↓aD,hz1,hz2];rw [lB];refine⟨room,_,f1,A1,f2,A2,_,g1,B1,g2,B2,(q2 ()).ext e23,(u2 ()).ext e23,λ b H4 e4 hb4=>?_⟩;rw [←q3 (),←q4 (),←u3 (),←u4 ()] at hb4;have h2_4:=e4.at h2_3;have e24:=e3.trans e4;have hcb:b=true ↔ ClD (atD ds j) (atD ds n):=hb4;clear hb4 q2 q3 q4 u2 u3 u4 hp3 e23 h2_3
     cases b with
     | false=>
      have hnc:¬ ClD (atD ds j) (atD ds n):=λ q=>by have:=hcb.mpr q;cases this
      clear hcb;ac_rfl;refine⟨_,a,rfl,e24,ha,λ i hi hcl=>?_,?_⟩
      ·by_cases hij:i=j
       ·rw [hij] at hcl;exact absurd hcl hnc
       ·exact hb () i %[0|8] hcl
      ·rcases hc () with q|⟨i,hi,q⟩
       ·exact .inl q
       ·exact .inr ⟨i,by omega,q⟩
     | true=>
      have hyc:ClD (atD ds j) (atD ds n):=hcb.mp rfl;have hcs:((bK L j:Nat):Int)+1=((bK L j+1:Nat):Int):=by omega
      clear hcb;ac_rfl;refine⟨_,bK L j+1,rfl,e24,by omega,λ i hi hcl=>?_,.inr ⟨j,by omega,hyc,rfl⟩⟩
      by_cases hij:i=j
      ·rw [hij];omega
      ·have:=hb () i %[0|8] hcl;omega
    ·have hle':¬ (a:Int)<=(bK L j:Int):=by omega
     simp! only [↓aD,hz1,hz2];refine⟨_,a,rfl,e3,ha,λ i hi hcl=>?_,?_⟩
     ·by_cases hij:i=j
      ·rw [hij];omega
      ·exact hb () i %[0|8] hcl
     ·rcases hc () with q|⟨i,hi,q⟩
      ·exact .inl q
      ·exact .inr ⟨i,by omega,q⟩
   ·rintro _ H3 ⟨v4',a,rfl,e3,ha,hb,hc⟩;have h2_3:=e3.at h2;have hLz:(cz L).length < sizeLine:=by rw [fK];exact iJ %[0|8]
    have e23:=(e2.trans e3).put (o:=.lst (cz L++[V.int (a:Int)])) hlv;have hs:=(hL ()).snoc (a:=a) (λ i hi hcl=>hb i %[0|8] (by rw [←hLn];exact hcl)) (by rcases hc with hc|⟨i,hi,hcl,he⟩;exact .inl hc;exact .inr ⟨i,by omega,by rw [hLn];exact hcl,he⟩);clear hb hc k al hL e2 e3 h2;ac_rfl;exact⟨_,_,_,L++[a],rfl,e23,by rw [wO],by rw [Ml,Mv,hLn],hs⟩
  ·rintro _ H2 ⟨v2,v3,v4,L,rfl,e2,h2,hLn,hL⟩;have k2:=k () lv H2 L e2 hlv h2 (by rw [hLn];exact hyl ()) hL;clear k al hL h2 hp;ac_rfl
def gi(L:List Nat)(M:Nat):Prop:=(∀ k,k < L.length->bK L k < M)/\(M=0\/∃ k,k < L.length/\bK L k+1=M)
def pC(L:List Nat)(a:Nat):List Nat:=(List.range L.length).filter λ k=>decide (bK L k=a)
def RwQ(r:Addr)(H:Hp)(c:List Nat)(y:V):Prop:=∃ q,y=.ref q/\q ≠ r/\H q=some (.lst (cz c))
theorem RwQ.ext{r:Addr}{H H':Hp}{c:List Nat}{y:V}(h:RwQ r H c y)(e:Ext H H'):RwQ r H' c y:=by
 obtain⟨q,h1,h2,h3⟩:=h;exact⟨q,h1,h2,e.at h3⟩
theorem RwQ.up{r:Addr}{H:Hp}{c:List Nat}{y:V}{o:HO}(h:RwQ r H c y):RwQ r (upd H r o) c y:=by
 obtain⟨q,h1,h2,h3⟩:=h;exact⟨q,h1,h2,by rw [ae h2];exact h3⟩
def RwL(H:Hp)(r:Addr)(C:List (List Nat)):Prop:=∃ ys,H r=some (.lst ys)/\Al (RwQ r H) C ys
theorem RwL.ext{H H':Hp}{r:Addr}{C:List (List Nat)}(h:RwL H r C)(e:Ext H H'):RwL H' r C:=by
 obtain⟨ys,h1,h2⟩:=h;exact⟨ys,e.at h1,h2.imp λ _ _ q=>q.ext e⟩
theorem ff{L:List Nat}{M M':Nat}(h:gi L M)(h':gi L M'):M=M':=by
 rcases h.2 with h0|⟨k,hk,he⟩
 ·rcases h'.2 with g0|⟨j,hj,ge⟩
  ·omega
  ·have:=h.1 j hj;omega
 ·have:=h'.1 k hk
  rcases h'.2 with g0|⟨j,hj,ge⟩
  ·omega
  ·have:=h.1 j hj;omega
theorem rG{L:List Nat}{Mi:Int}(hM:Mi∈(-1:Int)::L.map λ (k:Nat)=>(k:Int))(hle:∀ a∈(-1:Int)::L.map (λ (k:Nat)=>(k:Int)),a<=Mi):∃ M:Nat,Mi+1=(M:Int)/\gi L M:=by
 have hall:∀ k,k < L.length->(bK L k:Int)<=Mi:=λ k hk=>by
  refine hle _ (mem_cons_of_mem _ (List.mem_map.mpr ⟨bK L k,?_,rfl⟩));unfold bK;rw [getD_eq_getElem?_getD,getElem?_eq_getElem hk];exact getElem_mem hk
 rcases ML.mp hM with rfl|hM
 ·exact⟨0,rfl,λ k hk=>by have:=hall k hk;omega,.inl rfl⟩
 ·obtain⟨x,hx,rfl⟩:=MM.mp hM;obtain⟨k,hk,rfl⟩:=Nx hx
  have hlv:bK L k=L[k]:=by
   unfold bK;rw [getD_eq_getElem?_getD,getElem?_eq_getElem hk];rfl
  exact⟨L[k]+1,by omega,λ j hj=>by have:=hall j hj;omega,.inr ⟨k,hk,by omega⟩⟩
def BS  : Sp:=λ vs H Q E=>∃ (p:Addr),vs=[.ref p]/\(∃ L:List Nat,H p=some (.lst (cz L))/\L.length<=60/\(∀ k,k < L.length->bK L k<=k)/\∀ (r:Addr) (H':Hp) (M:Nat),Ext H H'->H r=none->gi L M->RwL H' r ((List.range M).map (pC L))->Q (.ref r) H')
theorem vY  (p:Addr) (H:Hp) (Q:VK) (E:XK):BS  [.ref p] H Q E=(∃ L:List Nat,H p=some (.lst (cz L))/\L.length<=60/\(∀ k,k < L.length->bK L k<=k)/\∀ (r:Addr) (H':Hp) (M:Nat),Ext H H'->H r=none->gi L M->RwL H' r ((List.range M).map (pC L))->Q (.ref r) H'):=g9 (f:=λ (p:Addr)=>[.ref p]) (λ _ _ h=>by cases h;exact rfl) p
theorem Ee  {vs:List V}{H:Hp}{Q:VK}{E:XK}(h:BS  vs H Q E):vs.length=1:=gb h λ _=>rfl
theorem qh(T:Tx K mg t):aW P w K mg base CX0 1 t.a__law_due t.d__law_due ["_law_levels_here"] BS:=by
 refine T.F__law_due.ok iw (λ vs H Q E h=>Ee h) (λ cdv A' outer s H vs Q E hr h=>?_)
 ·obtain⟨p,rfl,L,hp,hl,hlt,k⟩:=h;refine⟨_,%[%[1,iw,%[(@aH _)|12]|4],%[%[Mt,rfl,%[∅,T.z_range,%[%[bB,%[max,(lq rfl),%[%[dF,%[%[(@uw _ _ _ _ _ _ jd %[0|2])|1]|12],%[0|0]|11]|1]|6],%[0|2]|11]|1],∅|33],%[(2),_,iw.nd,rfl,(Or.inr rfl),%[0|7]|19],%[%[%[Mo,MI,MH,bo,%[1|0],%[%[(["_law_k", "_law_levels_here", "_law_found", "_law_level"]),(1),(aQ (aa fM) ["_law_levels_here", "_law_found", "_law_level"] rfl rfl nofun),rfl,%[∅,T.z_range,%[%[len,aL,%[%[0|0]|1]|6]|1],∅|33],(λ C s₀ H₀ ex pn=>%[(0),_,(show List.Nodup (["_law_k", "_law_levels_here", "_law_found", "_law_level"]:List Str) from by decide +kernel),rfl,(Or.inl rfl),%[0|7]|19]),(λ C s₀ H₀ ex pn=>(@hV _ _ _ %[(iA hr.units),%[bL,%[1|0],%[0|0],(λ _ _=>rfl)|14],%[3|0],(aw _)|15])),(λ C s₀ H₀ ex pn=>%[0|0]),(by intros;rfl)|28]|1],∅,∅,∅,∅,∅|30],∅|16]|10],(by intros;rfl)|21],%[%[%[1|0]|13]|10]|9]|9],?_⟩;rw [show au ["_law_levels_here", "_law_found", "_law_level"] [.ref p]=[some (.ref p),none,none] from rfl];exists k;exists hlt;have hnl:=fK L;have hn60:(cz L).length<=60:=by omega
  have hrg:-4611686018427387904<=((cz L).length:Int)/\((cz L).length:Int) < 4611686018427387904:=⟨by omega,by omega⟩;have hnz:(cz L).length < sizeLine:=iJ %[0|8];ac_rfl;intro r H1 hr0 e1 h1;have hp1:=e1.at hp;ac_rfl;intro n1 H2 _ e2 h2;have hp2:=e2.at hp1;refine er h2 hp2 (aC (by simp;omega)) ?_;intro m H3 _ e3 h3
  have h3':H3 m=some (.lst (((-1:Int)::L.map λ (k:Nat)=>(k:Int)).map V.int)):=by
   rw [h3];unfold cz;rw [map_cons,map_map];rfl
  have e23:=e2.trans e3;have hp3:=e23.at hp1;have h1_3:=e23.at h1;have e03:=e1.trans e23;have hpH:=λ (_:Unit)=>hp;clear h3 h2 hp2 e2 e3 e23 hp1 h1 e1 hp;obtain⟨ns,hns⟩:∃ ns,ns=(-1:Int)::L.map λ (k:Nat)=>(k:Int):=⟨_,rfl⟩;rw [←hns] at h3';exists hns;ac_rfl;rw [vh];refine⟨by rw [hns ()];exact Nat.succ_pos _,λ Mi hM hle=>?_⟩;rw [hns ()] at hM hle;obtain⟨M,hMe,hmn⟩:=rG hM hle
  have hM60:M<=60:=by
   rcases hmn.2 with h|⟨k,hk,he⟩
   ·omega
   ·have:=hlt () k hk;omega
  have hMr:-4611686018427387904<=(M:Int)/\(M:Int) < 4611686018427387904:=⟨by omega,by omega⟩;have hMi:-4611686018427387904<=Mi/\Mi < 4611686018427387904:=⟨by omega,by omega⟩;have hMt:(Mi+1).toNat=M:=by omega
  clear hM hle h3';ac_rfl;rw [Mz];refine ia (λ i σ H'=>∃ (v2:Option V) (ys:List V),σ=[some (.ref p),some (.ref r),v2]/\Ext H H'/\H' r=some (.lst ys)/\Al (RwQ r H') ((List.range i).map (pC L)) ys) ⟨none,[],rfl,e03,h1_3,Al.nil⟩ ?_ ?_
  ·clear k e03 h1_3 hp3;rintro i _ H4 hi ⟨v2,ys,rfl,e4,h4,al4⟩;have hp4:=e4.at (hpH ());have hyl:ys.length=i:=by rw [al4.1,Md,MY]
   have hy60:ys.length < sizeLine:=iJ %[0|8];have hz0:0+(i:Int)=(i:Int):=by omega
   exists al4;clear hlt hmn;simp! only [↓aD,hz0];rw [Mz];refine⟨by omega,by omega,?_⟩;refine bQ (List.range L.length) (λ k=>decide (bK L k=i)) (λ (k:Nat)=>.int (k:Int)) (λ (j:Nat) x H'=>x=.int (0+(j:Int))) iz.1 iz.2 (aC (by rw [MY];omega)) ?_ ?_
   ·intro D z y H' N1 N0 hz hD e' hy k1 k0;subst hy;have hzL:z < L.length:=Ng.mp hz;have hat:=jh hzL;have hp':=e'.at hp4;have hz1:0+(z:Int)=(z:Int):=by omega
    by_cases hc:bK L z=i
    ·have hc':(bK L z:Int)=(i:Int):=by omega
     have k1':=k1 (MW hc) H' (Ext.refl _);clear k1 k0 hz al4 hp4 e4;simp! only [↓aF,↓aK,hz1]
    ·have hc':¬ (bK L z:Int)=(i:Int):=by omega
     have k0':=k0 (MB hc) H' (Ext.refl _);clear k1 k0 hz al4 hp4 e4;simp! only [↓aF,↓aK,hz1]
   ·intro D H5 hD e5 h5;have h4_5:=e5.at h4;have nDr:D ≠ r:=(ah h4 hD).symm;have h5':H5 D=some (.lst (cz (pC L i))):=h5
    have al5:Al (RwQ r (upd H5 r (.lst (ys++[.ref D])))) ((List.range (i+1)).map (pC L)) (ys++[.ref D]):=by
     rw [List.range_succ,Nc];exact Al.snoc ((al4 ()).imp λ _ _ q=>(q.ext e5).up) ⟨D,rfl,nDr,by rw [ae nDr];exact h5'⟩
    have e05:=(e4.trans e5).put (o:=.lst (ys++[.ref D])) hr0;clear al4 h5 h5' hp4;ac_rfl;exact⟨iJ %[0|8],_,_,rfl,e05,rfl,al5⟩
  ·rintro _ H4 ⟨v2,ys,rfl,e4,h4,al4⟩;have k2:=k () r H4 M e4 hr0 hmn ⟨ys,h4,al4⟩;clear k al4;ac_rfl
def AU(c:List Nat):PyData:=.list ((c.map λ (k:Nat)=>(k:Int)).map PyData.int)
theorem gO(c:List Nat):cz c=(c.map λ (k:Nat)=>(k:Int)).map V.int:=by unfold cz;rw [map_map];rfl
theorem nY{r:Addr}{H:Hp}{f:V->Option PyData}:∀ {C:List (List Nat)}{ys:List V},Al (RwQ r H) C ys->aR (ys.map (iL H (iL H f)))=some (C.map AU)
 | [],ys,h=>by rw [Oc h.1];rfl
 | c::C,[],h=>by have:=h.1;simp at this
 | c::C,y::ys,h=>by
  obtain⟨q,rfl,_,hq⟩:=h.2 0 c y rfl rfl;have ih:=nY (f:=f) (C:=C) (ys:=ys) ⟨by have:=h.1;simpa using this,λ i z y' a b=>h.2 (i+1) z y' (by simpa using a) (by simpa using b)⟩
  have e1:iL H (iL H f) (.ref q)=some (AU c):=by
   show (H q).bind (yI (iL H f))=_
   rw [hq,gO]
   show (aR (((c.map λ (k:Nat)=>(k:Int)).map V.int).map (iL H f))).map PyData.list=_
   rw [dD];rfl
  show (iL H (iL H f) (.ref q)).bind (λ x=>(aR (ys.map (iL H (iL H f)))).map λ xs=>x::xs)=_
  rw [e1,ih];rfl
theorem nX:∀ C:List (List Nat),PyData.eqvAll (C.map AU) (C.map AU)=true
 | []=>by rw [map_nil,ir]
 | c::C=>by
  rw [map_cons,gA,nX C];unfold AU;rw [i4,gz];simp
theorem RwL.dat{H:Hp}{r:Addr}{C:List (List Nat)}(h:RwL H r C):hG H 6 (.ref r)=some (.list (C.map AU)):=by
 obtain⟨ys,h1,h2⟩:=h
 show (H r).bind (yI (hG H 5))=_
 rw [h1]
 show (aR (ys.map (iL H (iL H (hG H 3))))).map PyData.list=_
 rw [nY h2];rfl
theorem jc{H:Hp}{a b:Addr}{C:List (List Nat)}{Q:VK}(ha:RwL H a C)(hb:RwL H b C)(q:Q (.bl false) H):qEq true (.ref a) (.ref b) H Q:=by
 rw [bS,ha.dat,dZ,u0,hb.dat,dZ,mJ,i4,nX];exact q
def pM  : Sp:=λ vs H Q E=>∃ (a:Addr) (b:Addr),vs=[.ref a,.ref b]/\(∃ C:List (List Nat),RwL H a C/\RwL H b C/\(∀ c∈C,c.length<=100)/\C.length<=100/\∀ H',Ext H H'->Q (.bl true) H')
theorem oB  (a:Addr) (b:Addr) (H:Hp) (Q:VK) (E:XK):pM  [.ref a,.ref b] H Q E=(∃ C:List (List Nat),RwL H a C/\RwL H b C/\(∀ c∈C,c.length<=100)/\C.length<=100/\∀ H',Ext H H'->Q (.bl true) H'):=ug (f:=λ (a:Addr) (b:Addr)=>[.ref a,.ref b]) (λ _ _ _ _ h=>by cases h;exact⟨rfl,rfl⟩) a b
theorem xH  {vs:List V}{H:Hp}{Q:VK}{E:XK}(h:pM  vs H Q E):vs.length=2:=uh h λ _ _=>rfl
theorem mS(T:Tx K mg t):aW P w K mg base CX0 2 t.a__law_right t.d__law_right ["_law_found", "_law_due_here"] pM:=by
 have G__law_whole:=%[gS|41];refine T.F__law_right.ok iF (λ vs H Q E h=>xH h) (λ c A o s' H vs Q E hr h=>?_)
 ·obtain⟨a,b,rfl,L,ha,hb,hp,hl,k⟩:=h;refine⟨_,%[%[(PW.pt %[%[%[%[isinstance,bT,%[%[0|0],%[(@cU _ _ (.ty "list") (.type "list") _ ∅ T.z_list nofun rfl ⋯ ⋯)|1]|1]|6],(by intros;rfl)|26]|29],%[%[(bI hr.units),%[0|0],%[1|0],(aw _)|15]|32]|27]),%[%[(@dh _ _ _ _)|13]|10],(@ay _)|17],%[%[Mt,rfl,%[%[0|0]|18],%[2,iF|5],%[%[(PW.pt %[%[%[%[isinstance,bT,%[%[2|0],%[(@cU _ _ (.ty "list") (.type "list") _ ∅ T.z_list nofun rfl ⋯ ⋯)|1]|1]|6],(by intros;rfl)|26]|29],%[%[(bI hr.units),%[(["_law_k", "_law_found", "_law_due_here", "_law_row"]),(1),(aQ (aa dj) ["_law_found", "_law_due_here", "_law_row"] rfl rfl nofun),rfl,%[%[2|0]|18],(λ C s₀ H₀ ex pn=>%[(0),_,(show List.Nodup (["_law_k", "_law_found", "_law_due_here", "_law_row"]:List Str) from by decide +kernel),rfl,(Or.inl rfl),%[0|7]|19]),(λ C s₀ H₀ ex pn=>(@hV _ _ _ %[%[%[_law_whole,%[%[0|0]|1]|3],(by intros;rfl)|26]|29])),(λ C s₀ H₀ ex pn=>%[0|0]),(by intros;rfl)|28],%[(@aH _)|12],(aw _)|15]|32]|27]),%[%[(@dh _ _ _ _)|13]|10],(@ay _)|17]|10],(by intros;rfl)|21],%[%[(@dh _ _ _ _)|13]|10]|9]|9],?_⟩;rw [show au ["_law_found", "_law_due_here", "_law_row"] [.ref a,.ref b]=[some (.ref a),some (.ref b),none] from rfl];clear G__law_whole;obtain⟨ys,h1,al⟩:=id ha;exists ha;exists hb;exists hp;exists al;simp! only [-bS,-bJ];refine jc (ha ()) (hb ()) ?_;ac_rfl;refine aZ (xs:=ys) (λ i σ H'=>∃ v2:Option V,σ=[some (.ref a),some (.ref b),v2]/\Ext H H') ⟨none,rfl,Ext.refl _⟩ (λ i σ H' _ ⟨_,_,e⟩=>e.at h1) ?_ ?_
  ·rintro i x _ H2 hx ⟨v2,rfl,e2⟩;have hi:i < L.length:=by have:=(al ()).1;have:=(L9.mp hx).1;omega
   have hz:L[i]? = some L[i]:=L8 hi;obtain⟨q,rfl,_,hq⟩:=((al ()).2 i _ _ hz hx).ext e2;have hl4:=hp () _ (Mu hz);generalize L[i]=p at hq hl4;rw [gO] at hq;have hl5:(p.map λ (k:Nat)=>(k:Int)).length<=100:=by rw [Md];exact hl4
   generalize p.map (λ (k:Nat)=>(k:Int))=ps at hq hl5;clear hx hz h1 k hl4;ac_rfl;refine bQ (ps.map V.int) (λ _=>false) (λ z=>z) (λ z x H'=>x=z/\H' q=some (.lst (ps.map V.int))) (nH hq).1 (nH hq).2 (aC (by rw [Md];omega)) ?_ ?_
   ·intro L2 z x H' M1 M0 hz hL2 e ⟨hx,_⟩ _ j0;subst hx;obtain⟨c,_,rfl⟩:=MM.mp hz;have j0':=j0 rfl H' (Ext.refl _);clear j0 hz;simp! only [↓aF,↓aK,↓cV]
   ·intro L2 H3 hL2 e3 h3;rw [List.filter_eq_nil_iff.mpr (λ _ _=>by simp),map_nil] at h3;ac_rfl;intro q2 H4 hq2 e4 h4;have h3_4:=e4.at h3;clear h3;ac_rfl;exact⟨_,rfl,e2.trans (e3.trans e4)⟩
  ·rintro _ H2 ⟨v2,rfl,e2⟩;have k':=k H2 e2;clear k;ac_rfl
def JE(ds:List Sd)(L cs:List Nat):Prop:=∀ (i k:Nat),cs[i]? = some k->k < L.length/\bK L k=i/\∀ j,i=j+1->∃ k',cs[j]? = some k'/\k' < k/\ClD (atD ds k') (atD ds k)
abbrev jV  (a:Addr) (p:Addr) (v:Addr) (H:Hp) (Q:VK) (E:XK):Prop:=∃ (room:Int) (ds:List Sd) (L cs:List Nat),H a=some (.lst (cz cs))/\DsL H room p ds/\H v=some (.lst (cz L))/\L.length=ds.length/\ds.length<=60/\(∀ k,k < L.length->bK L k<=k)/\gi L cs.length/\JE ds L cs/\∀ H',Ext H H'->Q (.bl true) H'
def jq  : Sp:=λ vs H Q E=>∃ (a:Addr) (p:Addr) (v:Addr),vs=[.ref a,.ref p,.ref v]/\(jV  a p v H Q E)
theorem jO  (a:Addr) (p:Addr) (v:Addr) (H:Hp) (Q:VK) (E:XK):jq  [.ref a,.ref p,.ref v] H Q E=(jV  a p v H Q E):=yD (f:=λ (a:Addr) (p:Addr) (v:Addr)=>[.ref a,.ref p,.ref v]) (λ _ _ _ _ _ _ h=>by cases h;exact⟨rfl,rfl,rfl⟩) a p v
theorem qy  {vs:List V}{H:Hp}{Q:VK}{E:XK}(h:jq  vs H Q E):vs.length=3:=yE h λ _ _ _=>rfl
theorem j7(T:Tx K mg t):aW P w K mg base CX0 4 t.a__law_chained t.d__law_chained ["_law_found", "_law_drawn_here", "_law_levels_here"] jq:=by
 have G__law_whole:=%[gS|41];have G__law_clash:=%[gT|41];refine T.F__law_chained.ok dW (λ vs H Q E h=>qy h) (λ c A o s' H vs Q E hr h=>?_)
 ·obtain⟨a,p,v,rfl,room,ds,L,cs,ha,⟨ys,hp,al⟩,hv,hLd,hd,hlt,hmn,hch,k⟩:=h;refine⟨_,%[%[(PW.pt %[%[%[%[isinstance,bT,%[%[0|0],%[(@cU _ _ (.ty "list") (.type "list") _ ∅ T.z_list nofun rfl ⋯ ⋯)|1]|1]|6],(by intros;rfl)|26]|29],%[%[(bI hr.units),%[len,aL,%[%[0|0]|1]|6],%[bB,%[max,(lq rfl),%[%[dF,%[%[(@uw _ _ _ _ _ _ jd %[0|2])|1]|12],%[2|0]|11]|1]|6],%[0|2]|11],(aw _)|15]|32]|27]),%[%[(@dh _ _ _ _)|13]|10],(@ay _)|17],%[%[Mt,rfl,%[∅,T.z_range,%[%[len,aL,%[%[0|0]|1]|6]|1],∅|33],%[3,dW|5],%[%[4,dW,%[bL,%[0|0],%[3|0],(λ _ _=>rfl)|14]|4],%[%[(PW.pt %[%[%[%[_law_whole,%[%[4|0]|1]|3],(by intros;rfl)|26]|29],%[%[(@wB _ _ _ _ _ _ _ _ _ _ _ _ ux BY %[0|2] %[4|0] %[len,aL,%[%[1|0]|1]|6] ∅)|29],%[%[(bI hr.units),%[bL,%[2|0],%[4|0],(λ _ _=>rfl)|14],%[3|0],(aw _)|15]|32]|27]|27]),%[%[(@dh _ _ _ _)|13]|10],(@ay _)|17],%[%[(PW.pt %[%[pF,%[3|0],%[0|2],(aw _)|15],(@jg _ _ _ _ %[ux,%[4|0],%[bL,%[0|0],%[fV,%[3|0],%[0|2]|11],(λ _ _=>rfl)|14],(aw _)|15])|37]),%[%[(@dh _ _ _ _)|13]|10],(@ay _)|17],%[%[(PW.pt %[%[pF,%[3|0],%[0|2],(aw _)|15],(@jg _ _ _ _ %[%[%[_law_clash,%[%[bL,%[1|0],%[bL,%[0|0],%[fV,%[3|0],%[0|2]|11],(λ _ _=>rfl)|14],(λ _ _=>rfl)|14],%[%[bL,%[1|0],%[4|0],(λ _ _=>rfl)|14]|1]|1]|3],(by intros;rfl)|26]|29])|37]),%[%[(@dh _ _ _ _)|13]|10],(@ay _)|17]|10]|9]|9]|9],(by intros;rfl)|21],%[%[(@dh _ _ _ _)|13]|10]|9]|9],?_⟩;rw [show au ["_law_found", "_law_drawn_here", "_law_levels_here", "_law_at", "_law_here"] [.ref a,.ref p,.ref v]=[some (.ref a),some (.ref p),some (.ref v),none,none] from rfl];clear G__law_whole G__law_clash;exists k;exists hlt;exists hmn;exists hch;exists al;have hcl:=fK cs;have hLl:=fK L;have hyl:ys.length=ds.length:=(al ()).1
  have hc60:cs.length<=60:=by
   rcases (hmn ()).2 with h|⟨k,hk,he⟩
   ·omega
   ·have:=hlt () k hk;omega
  ac_rfl;intro n1 H2 _ e2 h2;have hv2:=e2.at hv;refine er h2 hv2 (aC (by simp;omega)) ?_;intro m H3 _ e3 h3
  have h3':H3 m=some (.lst (((-1:Int)::L.map λ (k:Nat)=>(k:Int)).map V.int)):=by
   rw [h3,gO,Nj];rfl
  have e03:=e2.trans e3;have hv3:=e03.at hv;have ha3:=e03.at ha;have hp3:=e03.at hp;obtain⟨ns,hns⟩:∃ ns,ns=(-1:Int)::L.map λ (k:Nat)=>(k:Int):=⟨_,rfl⟩;rw [←hns] at h3';exists hns;clear h3 h2 hv2 e2 e3 hv ha hp;ac_rfl;rw [vh];refine⟨by rw [hns ()];exact Nat.succ_pos _,λ Mi hM hle=>?_⟩;rw [hns ()] at hM hle
  have hMe:Mi+1=(cs.length:Int):=by
   obtain⟨M,hM1,hM2⟩:=rG hM hle;rw [ff (hmn ()) hM2];exact hM1
  clear hM hle h3';have hMr:-4611686018427387904<=(cs.length:Int)/\(cs.length:Int) < 4611686018427387904:=⟨by omega,by omega⟩;have hMi:-4611686018427387904<=Mi/\Mi < 4611686018427387904:=⟨by omega,by omega⟩;ac_rfl
  try rw [Mz]
  refine ia (λ i σ H'=>∃ v3 v4:Option V,σ=[some (.ref a),some (.ref p),some (.ref v),v3,v4]/\Ext H3 H') ⟨none,none,rfl,Ext.refl _⟩ ?_ ?_
  ·clear k hmn;rintro i _ H4 hi ⟨v3,v4,rfl,e4⟩;have hi':i < cs.length:=hi;have hcs:cs[i]? = some (bK cs i):=by unfold bK;rw [getD_eq_getElem?_getD,getElem?_eq_getElem hi'];rfl
   obtain⟨c1,c2,c3⟩:=hch () i _ hcs;have hat:=jh hi';have hat2:=jh c1;rw [c2] at hat2;have ha4:=e4.at ha3;have hv4:=e4.at hv3;have hp4:=e4.at hp3;have hz0:0+(i:Int)=(i:Int):=by omega
   have hczL:(cz cs).length < sizeLine:=iJ %[0|8];have hLzL:(cz L).length < sizeLine:=iJ %[0|8];have hyz:ys.length < sizeLine:=iJ %[0|8];have hir:-4611686018427387904<=(i:Int)/\(i:Int) < 4611686018427387904:=⟨by omega,by omega⟩;have hb1:(0:Int)<=(bK cs i:Int):=by omega
   have hb2:(bK cs i:Int) < (ys.length:Int):=by omega
   have hbr:-4611686018427387904<=(bK cs i:Int)/\(bK cs i:Int) < 4611686018427387904:=⟨by omega,by omega⟩;have hyr:-4611686018427387904<=(ys.length:Int)/\(ys.length:Int) < 4611686018427387904:=⟨by omega,by omega⟩;exists c3;clear ha3 hv3 hp3 hi hcs
   by_cases hi0:i=0
   ·have hn0:¬ (0:Int) < (i:Int):=by omega
    clear c3 al hi0 c2 hyl hLd hcl hLl;simp! only [↓aD,hz0,↓cV];exact⟨_,_,rfl,e4⟩
   ·obtain⟨j,hj⟩:∃ j,i=j+1:=⟨i - 1,by omega⟩;obtain⟨k',g1,g2,g3⟩:=c3 () j hj;have hjl:j < cs.length:=(List.getElem?_eq_some_iff.mp g1).1;have hlk:bK cs j=k':=by unfold bK;rw [getD_eq_getElem?_getD,g1];rfl
    have hatj:=jh hjl;rw [hlk] at hatj;have hn0:(0:Int) < (i:Int):=by omega
    have hz1:(i:Int) - 1=(j:Int):=by omega
    have hjr:-4611686018427387904<=(j:Int)/\(j:Int) < 4611686018427387904:=⟨by omega,by omega⟩;have hkr:-4611686018427387904<=(k':Int)/\(k':Int) < 4611686018427387904:=⟨by omega,by omega⟩;have hnle:¬ (bK cs i:Int)<=(k':Int):=by omega
    obtain⟨p1,f1,A1,f2,A2,q1,q2,q3,q4⟩:=DsL.at' (al ()) (k:=k') %[0|8];obtain⟨p2,w1,B1,w2,B2,u1,u2,u3,u4⟩:=DsL.at' (al ()) (k:=bK cs i) %[0|8];have e04:=e03.trans e4;exists q2;exists u2;exists q3;exists q4;exists u3;exists u4;exists g3;clear c3 al g1 hlk hj hi0 c2 hyl hLd hcl hLl;simp! only [↓aD,hz0,↓cV];rw [lB];refine⟨room,_,f1,A1,f2,A2,_,w1,B1,w2,B2,(q2 ()).ext e04,(u2 ()).ext e04,λ b H5 e5 hb5=>?_⟩;rw [←q3 (),←q4 (),←u3 (),←u4 ()] at hb5;have hbt:b=true:=hb5.mpr (g3 ());subst hbt;have e35:=e4.trans e5;clear hb5 q2 q3 q4 u2 u3 u4 g3;ac_rfl;exact⟨_,_,rfl,e35⟩
  ·rintro _ H4 ⟨v3,v4,rfl,e4⟩;have k':=k () H4 (e03.trans e4);clear k al hch hmn;ac_rfl
def yC(t:Adr)(H:Hp)(p:Addr)(wd:Str)(num:Int):Prop:=∃ es:List Ex3,SxL t H p es/\es.length<=1000/\((60 < es.length/\wd = "many" /\ num=(es.length:Int))\/(es.length<=60/\NoP es/\wd = "pair" /\ num=0)\/(es.length<=60/\¬ NoP es/\(∃ n,Lng es n)/\(∀ n,Lng es n->n=num)/\wd = "many"))
theorem yC.ext{t:Adr}{H H':Hp}{p:Addr}{wd:Str}{num:Int}(h:yC t H p wd num)(e:Ext H H'):yC t H' p wd num:=by
 obtain⟨es,h1,h2⟩:=h;exact⟨es,h1.ext e,h2⟩
def uM(t:Adr):Sp:=λ vs H Q E=>∃ (way:Int) (p:Addr),vs=[.int way,.ref p]/\(0<=way/\way<=1/\∃ (wd:Str) (num:Int),yC t H p wd num/\∀ (r:Addr) (H':Hp),H r=none->Ext H H'->H' r=some (.tup [.str wd,.int num])->Q (.ref r) H')
theorem gL(t:Adr)(way:Int)(p:Addr)(H:Hp)(Q:VK)(E:XK):uM t [.int way,.ref p] H Q E=(0<=way/\way<=1/\∃ (wd:Str) (num:Int),yC t H p wd num/\∀ (r:Addr) (H':Hp),H r=none->Ext H H'->H' r=some (.tup [.str wd,.int num])->Q (.ref r) H'):=ug (f:=λ (way:Int) (p:Addr)=>[.int way,.ref p]) (λ _ _ _ _ h=>by cases h;exact⟨rfl,rfl⟩) way p
theorem Af(t:Adr){vs:List V}{H:Hp}{Q:VK}{E:XK}(h:uM t vs H Q E):vs.length=2:=uh h λ _ _=>rfl
theorem Ba{t:Adr}{H0:Hp}{es:List Ex3}{wd:Str}{num:Int}{E:XK}(hcs:(60 < es.length/\wd = "many" /\ num=(es.length:Int))\/(es.length<=60/\NoP es/\wd = "pair" /\ num=0)\/(es.length<=60/\¬ NoP es/\(∃ n,Lng es n)/\(∀ n,Lng es n->n=num)/\wd = "many"))
  (hm:wd = "many" → ∀ dx H',Ext H0 H'->H' dx=some (.xd [("number",.int num)])->E (.ref t.a_TooMany) (some dx) H') (hp:wd = "pair" → num=0->∀ H',Ext H0 H'->E (.ref t.a_NoPair) none H'):RfX t H0 es E:=by
 refine⟨?_,λ hb dx H1 e1 hdx=>?_,λ hb hn H1 e1=>?_,λ hb hn n hlg dx H1 e1 hdx=>?_⟩
 ·rcases hcs with h|h|h
  ·exact .inl h.1
  ·exact .inr (.inl h.2.1)
  ·exact .inr (.inr h.2.2.1)
 ·obtain⟨hwd,hnum⟩:wd = "many" /\ num=(es.length:Int):=by
   rcases hcs with h|h|h
   ·exact h.2
   ·exact absurd h.1 %[0|8]
   ·exact absurd h.1 %[0|8]
  exact hm hwd dx H1 e1 (by rw [hnum];exact hdx)
 ·obtain⟨hwd,hnum⟩:wd = "pair" /\ num=0:=by
   rcases hcs with h|h|h
   ·exact absurd h.1 %[0|8]
   ·exact h.2.2
   ·exact absurd hn h.2.1
  exact hp hwd hnum H1 e1
 ·obtain⟨hwd,hnum⟩:wd = "many" /\ n=num:=by
   rcases hcs with h|h|h
   ·exact absurd h.1 %[0|8]
   ·exact absurd h.2.1 hn
   ·exact⟨h.2.2.2.2,h.2.2.2.1 n hlg⟩
  exact hm hwd dx H1 e1 (by rw [←hnum];exact hdx)
theorem oZ(T:Tx K mg t):aW P w K mg base CX0 8 t.a__law_told t.d__law_told ["_law_way", "_law_statements"] (uM t):=by
 have G_rounds:=%[sL|41];have G_chain:=%[wM|41];refine T.F__law_told.ok cu (λ vs H Q E h=>Af _ h) (λ cdv A' outer s H vs Q E hr h=>?_)
 ·obtain⟨way,p,rfl,hw0,hw1,wd,num,⟨es,hx,hl,hcs⟩,k⟩:=h;have hx1:=T.x_NoPair_PaceError;have hx2:=T.x_TooMany_PaceError;refine⟨_,%[%[2,cu,%[%[(@fU _ _ _ _),%[%[0|2]|1]|1]|22]|4],%[(@FU _ _ _ _ _ _ _ ⟨rfl,rfl,rfl⟩ (λ EX E pn hx=>%[%[%[(iA hr.units),%[0|0],%[0|2],(aw _)|15],%[%[(@rq _ _ _ _ _ _ _ _ _ _ _ _ _ _ _ _ G_rounds (hr.mono ⋯) ∅ T.m_rounds T.F_rounds.kp T.b_rounds .nil hx %[%[1|0]|1] ⋯ ∅ ∅),∅|16]|10],%[%[(@rq _ _ _ _ _ _ _ _ _ _ _ _ _ _ _ _ G_chain (hr.mono ⋯) ∅ T.m_chain T.F_chain.kp T.b_chain .nil hx %[%[1|0]|1] ⋯ ∅ ∅),∅|16]|10]|17]|10]) (@CF _ _ _ (3) _ _ _ _ _ _ _ _ cu.nd rfl rfl ∅ (.inl T.m_PaceError) (λ ee=>%[%[2,cu,%[%[(@fU _ _ _ _),%[%[0|2]|1]|1]|22]|4],%[%[(PW.pt %[%[%[isinstance,(cP (K:=K) rfl),%[%[3|0],%[(@cS _ _ (.ref t.a_NoPair) _ _ ∅ T.m_NoPair rfl ⋯)|1]|1]|6],(by intros;rfl)|26],%[%[%[isinstance,(cP (K:=K) rfl),%[%[3|0],%[(@cU _ _ (.ty "ValueError") (.type "ValueError") _ ∅ T.z_ValueError nofun rfl ⋯ ⋯)|1]|1]|6],(by intros;rfl)|26],(@jg _ _ _ _ %[%[%[isinstance,(cP (K:=K) rfl),%[%[3|0],%[(@cS _ _ (.ref t.a_TooMany) _ _ ∅ T.m_TooMany rfl ⋯)|1]|1]|6],(by intros;rfl)|26]|29])|37]|37]),%[%[2,cu,%[%[(@fU _ _ _ _),%[%[0|2]|1]|1]|22]|4]|10],(@ay _)|17],%[%[(PW.pt %[%[%[isinstance,(cP (K:=K) rfl),%[%[3|0],%[(@cS _ _ (.ref t.a_TooMany) _ _ ∅ T.m_TooMany rfl ⋯)|1]|1]|6],(by intros;rfl)|26],%[%[%[isinstance,(cP (K:=K) rfl),%[%[3|0],%[(@cU _ _ (.ty "ValueError") (.type "ValueError") _ ∅ T.z_ValueError nofun rfl ⋯ ⋯)|1]|1]|6],(by intros;rfl)|26],(@jg _ _ _ _ %[%[%[isinstance,(cP (K:=K) rfl),%[%[3|0],%[(@cS _ _ (.ref t.a_NoPair) _ _ ∅ T.m_NoPair rfl ⋯)|1]|1]|6],(by intros;rfl)|26]|29])|37]|37]),%[%[2,cu,%[%[(@fU _ _ _ _),%[(@zD _ (K) rfl _ _ _ _ %[3|0] rfl)|1]|1]|22]|4]|10],(@ay _)|17]|10]|9]|9]) (@CD _) ⋯)),%[%[%[2|0]|13]|10]|9]|9],?_⟩;rw [show au ["_law_way", "_law_statements", "_law_word", "e"] [.int way,.ref p]=[some (.int way),some (.ref p),none,none] from rfl];clear G_rounds G_chain;exists k;exists hcs;exists hx
  by_cases hw:way=0
  ·ac_rfl;intro q0 H0 hq0 e0 h0;ac_rfl;rw [qD];refine⟨es,(hx ()).ext e0,hl,Ba (hcs ()) (λ hwd dx H1 e1 hdx=>?_) (λ hwd hnum H1 e1=>?_)⟩
   ·subst hwd;clear hcs hx h0 hq0;ac_rfl;intro e oe he' hcl hdc hnc;have hne:dx ≠ e:=ah hdx he';have d3:(upd H1 e (iK oe)) dx=some (.xd [("number",.int num)]):=by rw [ae hne];exact hdx
    have g4':(upd H1 e (iK oe)) e=some (iK oe):=ag;have e2:Ext H (upd H1 e (iK oe)):=e0.trans (e1.trans (Ext.new he'));generalize upd H1 e (iK oe)=H2 at e2 g4' d3;have hdat:∃ vs,oe.data=.fields vs:=(let ⟨vs,a,_⟩:=hnc;⟨vs,a⟩);clear he' hdx hne;simp! only [T.e_TooMany,T.k_TooMany_NoPair,T.k_TooMany_TooMany,T.k_TooMany_ValueError];intro w3 H3 _ e3 h3;have g5':=e3.at g4';have d4:=e3.at d3;have e03:=e2.trans e3;clear h3 g4' d3;simp! only [T.e_TooMany,T.k_TooMany_NoPair,T.k_TooMany_TooMany,T.k_TooMany_ValueError];refine⟨e,oe,t.a_TooMany,dx,[("number",.int num)],.int num,rfl,g5',hcl,hdc,hdat,d4,T.e_TooMany,T.na_TooMany_number,rfl,?_⟩;ac_rfl;intro w7 H7 hw7 e7 h7;have k2:=k () w7 H7 (e03.free hw7) (e03.trans e7) h7;clear k hw7;ac_rfl
   ·subst hwd hnum;clear hcs hx h0 hq0;ac_rfl;intro e oe he' hcl hdc hnc;have g4':(upd H1 e (iK oe)) e=some (iK oe):=ag;have e2:Ext H (upd H1 e (iK oe)):=e0.trans (e1.trans (Ext.new he'));generalize upd H1 e (iK oe)=H2 at e2 g4';have hdat:∃ vs,oe.data=.fields vs:=(let ⟨vs,a,_⟩:=hnc;⟨vs,a⟩);clear he';simp! only [T.e_NoPair,T.k_NoPair_NoPair,T.k_NoPair_TooMany,T.k_NoPair_ValueError];intro w3 H3 _ e3 h3;have g5':=e3.at g4';have e03:=e2.trans e3;clear h3 g4';simp! only [T.e_NoPair,T.k_NoPair_NoPair,T.k_NoPair_TooMany,T.k_NoPair_ValueError];intro w4 H4 hw4 e4 h4;have g6':=e4.at g5';have k2:=k () w4 H4 (e03.free hw4) (e03.trans e4) h4;clear k hw4 g5';simp! only [T.e_NoPair,T.k_NoPair_NoPair,T.k_NoPair_TooMany,T.k_NoPair_ValueError]
  ·ac_rfl;intro q0 H0 hq0 e0 h0;ac_rfl;rw [tZ];refine⟨es,(hx ()).ext e0,hl,Ba (hcs ()) (λ hwd dx H1 e1 hdx=>?_) (λ hwd hnum H1 e1=>?_)⟩
   ·subst hwd;clear hcs hx h0 hq0;ac_rfl;intro e oe he' hcl hdc hnc;have hne:dx ≠ e:=ah hdx he';have d3:(upd H1 e (iK oe)) dx=some (.xd [("number",.int num)]):=by rw [ae hne];exact hdx
    have g4':(upd H1 e (iK oe)) e=some (iK oe):=ag;have e2:Ext H (upd H1 e (iK oe)):=e0.trans (e1.trans (Ext.new he'));generalize upd H1 e (iK oe)=H2 at e2 g4' d3;have hdat:∃ vs,oe.data=.fields vs:=(let ⟨vs,a,_⟩:=hnc;⟨vs,a⟩);clear he' hdx hne;simp! only [T.e_TooMany,T.k_TooMany_NoPair,T.k_TooMany_TooMany,T.k_TooMany_ValueError];intro w3 H3 _ e3 h3;have g5':=e3.at g4';have d4:=e3.at d3;have e03:=e2.trans e3;clear h3 g4' d3;simp! only [T.e_TooMany,T.k_TooMany_NoPair,T.k_TooMany_TooMany,T.k_TooMany_ValueError];refine⟨e,oe,t.a_TooMany,dx,[("number",.int num)],.int num,rfl,g5',hcl,hdc,hdat,d4,T.e_TooMany,T.na_TooMany_number,rfl,?_⟩;ac_rfl;intro w7 H7 hw7 e7 h7;have k2:=k () w7 H7 (e03.free hw7) (e03.trans e7) h7;clear k hw7;ac_rfl
   ·subst hwd hnum;clear hcs hx h0 hq0;ac_rfl;intro e oe he' hcl hdc hnc;have g4':(upd H1 e (iK oe)) e=some (iK oe):=ag;have e2:Ext H (upd H1 e (iK oe)):=e0.trans (e1.trans (Ext.new he'));generalize upd H1 e (iK oe)=H2 at e2 g4';have hdat:∃ vs,oe.data=.fields vs:=(let ⟨vs,a,_⟩:=hnc;⟨vs,a⟩);clear he';simp! only [T.e_NoPair,T.k_NoPair_NoPair,T.k_NoPair_TooMany,T.k_NoPair_ValueError];intro w3 H3 _ e3 h3;have g5':=e3.at g4';have e03:=e2.trans e3;clear h3 g4';simp! only [T.e_NoPair,T.k_NoPair_NoPair,T.k_NoPair_TooMany,T.k_NoPair_ValueError];intro w4 H4 hw4 e4 h4;have g6':=e4.at g5';have k2:=k () w4 H4 (e03.free hw4) (e03.trans e4) h4;clear k hw4 g5';simp! only [T.e_NoPair,T.k_NoPair_NoPair,T.k_NoPair_TooMany,T.k_NoPair_ValueError]
theorem StX.zero{t:Adr}{H:Hp}{s dx:Addr}{room n:Int}(h:H s=some (.ins t.a_Statement dx [])):StX t H s 0 room n:=⟨s,s,⟨by decide,dx,.non,h⟩,(λ q=>absurd q ⋯),λ q=>absurd q ⋯⟩
theorem mi{t:Adr}{H:Hp}{s dx u:Addr}{x:V}{room n:Int}(h:H s=some (.ins t.a_Fill dx [("to",.ref u),("value",x)]))(v:VwN t.a_View H u room n):StX t H s 1 room n:=⟨u,u,⟨by decide,dx,x,h⟩,(λ _=>v),λ q=>absurd q ⋯⟩
theorem Bh{room f n p:Int}(hr:1<=room/\room<=1000000)(hf:0<=f/\f < room)(hn:1<=n/\n<=1000000000):ja room f [(n,0)]:=by
 have ax:fF [(n,(0:Int))]:=⟨by simp,λ a ha=>by rw [Mh.mp ha];exact⟨by show 1<=n;omega,by show n<=_;omega⟩⟩;have e:[(n,(0:Int))].map aU=[(n,0)]:=by show [(n,if n > 1 then (0:Int) else 0)]=_;rw [ite_self]
 have l:ba [(n,(0:Int))]=0:=by show min 0 ((n - 1) * 0)+0=_;rw [Int.mul_zero];decide
 have g:bg [(n,(0:Int))]=0:=by show max 0 ((n - 1) * 0)+0=_;rw [Int.mul_zero];decide
 exact⟨ax,hr.1,by omega,by rw [e,l];omega,by rw [e,g];omega⟩
theorem CU{C:Addr}{H:Hp}{x:Addr}{room f n:Int}(hn:1<=n/\n<=1000000000)(v:aA C H x room f ([(n,(0:Int))].map aU)):VwN C H x room n:=by
 have ax:fF [(n,(0:Int))]:=⟨by simp,λ a ha=>by rw [Mh.mp ha];exact⟨by show 1<=n;omega,by show n<=_;omega⟩⟩;exact⟨f,_,v,ax.kept,by rw [ef];show ak [n]=n;simp [ak]⟩
theorem BJ{α:Type}{R:α->V->Prop}:∀ {zs zs':List α}{ys ys':List V},Al R zs ys->Al R zs' ys'->Al R (zs++zs') (ys++ys')
 | [],zs',[],ys',_,h'=>h'
 | [],_,y::ys,_,h,_=>by have:=h.1;simp at this
 | z::zs,_,[],_,h,_=>by have:=h.1;simp at this
 | z::zs,zs',y::ys,ys',h,h'=>Al.cons' (h.2 0 z y rfl rfl) (BJ ⟨by have:=h.1;simpa using this,λ i a b ha hb=>h.2 (i+1) a b (by simpa using ha) (by simpa using hb)⟩ h')
theorem qT{α:Type}{R:α->V->Prop}{zs:List α}{ys:List V}(h:Al R zs ys):∀ n:Nat,Al R (List.replicate n zs).flatten (List.replicate n ys).flatten
 | 0=>Al.nil
 | n+1=>by
  rw [Ni,Ni,NO,NO];exact BJ h (qT h n)
theorem gj{α:Type}(zs:List α):∀ n:Nat,(List.replicate n zs).flatten.length=n * zs.length
 | 0=>by simp
 | n+1=>by rw [Ni,NO,Ml,gj zs n,Nat.succ_mul,Nat.add_comm]
theorem ve{room:Int}(hr:1<=room/\room<=1000000):ja room 0 []:=⟨⟨by simp,λ a ha=>by cases ha⟩,hr.1,by omega,by show (0:Int)<=0+ba [];decide,by show (0:Int)+bg [] < room;have:bg []=0:=rfl;omega⟩
theorem vS{C:Addr}{H:Hp}{x:Addr}{room f:Int}(v:aA C H x room f (([]:List (Int × Int)).map aU)):VwN C H x room 1:=⟨f,_,v,⟨by simp,λ a ha=>by cases ha⟩,rfl⟩
theorem iV{ys:List Ex3}{room:Int}(h:∀ e∈ys,e.2.1=room):¬ NoP ys:=λ ⟨a,ha,b,hb,_,_,hn⟩=>hn ((h a ha).trans (h b hb).symm)
abbrev oS(t:Adr)(K:PySem.W.Frag)(a:Addr)(ns:List Int)(s:Addr)(room:Int)(p:Addr)(H:Hp)(Q:VK)(E:XK):Prop:=s=a/\SqL K H a (ns.map V.int)/\ns.length<=63/\20<=room/\room<=60/\∃ g:Addr,H p=some (.lst [.ref g])/\SxY t H (1,room,1) (.ref g)/\∀ H',Ext H H'->Q (.bl true) H'
def pQ(t:Adr)(K:W.Frag)(a:Addr)(ns:List Int):Sp:=λ vs H Q E=>∃ (s:Addr) (room:Int) (p:Addr),vs=[.ref s,.int room,.ref p]/\(oS t K a ns s room p H Q E)
theorem yq(t:Adr)(K:W.Frag)(a:Addr)(ns:List Int)(s:Addr)(room:Int)(p:Addr)(H:Hp)(Q:VK)(E:XK):pQ t K a ns [.ref s,.int room,.ref p] H Q E=(oS t K a ns s room p H Q E):=yD (f:=λ (s:Addr) (room:Int) (p:Addr)=>[.ref s,.int room,.ref p]) (λ _ _ _ _ _ _ h=>by cases h;exact⟨rfl,rfl,rfl⟩) s room p
theorem xN(t:Adr)(K:W.Frag)(a:Addr)(ns:List Int){vs:List V}{H:Hp}{Q:VK}{E:XK}(h:pQ t K a ns vs H Q E):vs.length=3:=yE h λ _ _ _=>rfl
theorem Bc{t:Adr}{H:Hp}{e:Ex3}{y:V}(h:SxY t H e y)(n:Nat):Al (SxY t H) (List.replicate n [e]).flatten (List.replicate n [y]).flatten:=qT (Al.cons' h Al.nil) n
theorem j6(T:Tx K mg t)(a:Addr)(ns:List Int):aW P w K mg base CX0 9 t.a__law_refused t.d__law_refused ["_law_script", "_law_room", "_law_built"] (pQ t K a ns):=by
 have G__law_draw:=%[fB|41] a ns;have G_View___init__:=%[cG|41];have G_Fill___init__:=%[cH|41];have G__law_told:=%[oZ|41];refine T.F__law_refused.ok aT (λ vs H Q E h=>xN _ _ _ _ h) (λ cdv A' outer s H vs Q E hr h=>?_)
 ·obtain⟨_,room,gp,rfl,rfl,hS,hl,hr0,hr1,g,hp,sg,kk⟩:=h;rename_i a;refine⟨_,%[%[3,aT,%[bB,%[0|2],%[_law_draw,%[%[0|0],%[%[0|2],%[%[0|2]|1]|1]|1]|3]|11]|4],%[%[4,aT,%[T.mk_Fill,G_Fill___init__,(hr.mono ⋯),∅,T.m_Fill,T.b_Fill___init__,.nil,bu,%[%[T.mk_View,G_View___init__,(hr.mono ⋯),∅,T.m_View,T.b_View___init__,.nil,bu,%[%[bB,%[bB,%[1|0],%[0|2]|11],%[_law_draw,%[%[0|0],%[%[0|2],%[%[0|2]|1]|1]|1]|3]|11],%[%[0|2],%[%[(@aH _)|12]|1]|1]|1],⋯,∅,∅|25],%[%[0|2]|1]|1],⋯,∅,∅|25]|4],%[%[5,aT,%[bB,%[0|2],%[_law_draw,%[%[0|0],%[%[0|2],%[%[uZ,%[0|2],%[0|2]|11]|1]|1]|1]|3]|11]|4],%[%[6,aT,%[T.mk_Fill,G_Fill___init__,(hr.mono ⋯),∅,T.m_Fill,T.b_Fill___init__,.nil,bu,%[%[T.mk_View,G_View___init__,(hr.mono ⋯),∅,T.m_View,T.b_View___init__,.nil,bu,%[%[1|0],%[%[0|2],%[%[%[%[%[%[5|0],%[%[0|2]|1]|1]|22]|1]|12]|1]|1]|1],⋯,∅,∅|25],%[%[0|2]|1]|1],⋯,∅,∅|25]|4],%[%[Mt,rfl,%[∅,T.z_range,%[%[0|2]|1],∅|33],%[7,aT|5],%[%[%[(bI hr.units),%[_law_told,%[%[7|0],%[%[lX,%[%[(@hZ _ _ _ _ _ T.mk0_Statement ∅ T.m_Statement ⋯)|1]|12],%[3|0]|11]|1]|1]|3],%[%[(@fU _ _ _ _),%[%[3|0]|1]|1]|22],(aw _)|15],%[%[(@dh _ _ _ _)|13]|10],(@ay _)|17],%[%[%[(bI hr.units),%[_law_told,%[%[7|0],%[%[dF,%[dF,%[%[%[4|0]|1]|12],%[2|0]|11],%[%[%[6|0]|1]|12]|11]|1]|1]|3],%[%[(@fU _ _ _ _),%[%[0|2]|1]|1]|22],(aw _)|15],%[%[(@dh _ _ _ _)|13]|10],(@ay _)|17],%[%[(PW.pt %[%[(bI hr.units),%[_law_told,%[%[7|0],%[%[dF,%[%[%[6|0]|1]|12],%[2|0]|11]|1]|1]|3],%[%[(@fU _ _ _ _),%[%[5|0]|1]|1]|22],(aw _)|15],%[%[(bI hr.units),%[_law_told,%[%[7|0],%[%[lX,%[%[%[4|0]|1]|12],%[3|0]|11]|1]|1]|3],%[%[(@fU _ _ _ _),%[%[3|0]|1]|1]|22],(aw _)|15]|32]|27]),%[%[(@dh _ _ _ _)|13]|10],(@ay _)|17],%[%[Mt,rfl,%[%[%[%[%[%[6|0]|1]|12],%[%[%[(@hZ _ _ _ _ _ T.mk0_Statement ∅ T.m_Statement ⋯),%[%[6|0]|1]|1]|12],%[%[%[%[6|0],%[(@hZ _ _ _ _ _ T.mk0_Statement ∅ T.m_Statement ⋯)|1]|1]|12]|1]|1]|1]|12]|18],%[8,aT|5],%[%[%[(bI hr.units),%[_law_told,%[%[7|0],%[%[8|0]|1]|1]|3],%[%[(@fU _ _ _ _),%[%[5|0]|1]|1]|22],(aw _)|15],%[%[(@dh _ _ _ _)|13]|10],(@ay _)|17]|10],(by intros;rfl)|21]|10]|9]|9]|9],(by intros;rfl)|21],%[%[(@dh _ _ _ _)|13]|10]|9]|9]|9]|9]|9],?_⟩;rw [show au ["_law_script", "_law_room", "_law_built", "_law_much", "_law_far", "_law_size", "_law_many", "_law_way", "_law_some_here"] [.ref a,.int room,.ref gp]=[some (.ref a),some (.int room),some (.ref gp),none,none,none,none,none,none] from rfl];clear G__law_draw G_View___init__ G_Fill___init__ G__law_told;exists kk;exists sg;have so1:PyData.strOk (Str.ofString "many")=true:=by decide +kernel
  have so2:PyData.strOk (Str.ofString "pair")=true:=by decide +kernel
  have sq1:(Str.ofString "many" == Str.ofString "many")=true:=Ov _;have sq2:(Str.ofString "pair" == Str.ofString "pair")=true:=Ov _;have eb:=Ext.refl H;ac_rfl;rw [bR];refine⟨hS,hl,⟨by decide,by decide⟩,by decide,λ d0 d00 d01=>?_⟩;obtain⟨M,hM⟩:∃ M:Nat,61+d0=(M:Int):=⟨(61+d0).toNat,by omega⟩;have hM1:61<=M:=by omega
  have hM2:M<=100:=by omega
  ac_rfl;clear hM d00 d01;rw [bR];refine⟨hS,hl,⟨by decide,by decide⟩,by decide,λ d1 d10 d11=>?_⟩;obtain⟨rb,hrb⟩:∃ rb,room+1+d1=rb:=⟨_,rfl⟩;have hrb1:room < rb:=by omega
  have hrb2:rb<=100:=by omega
  ac_rfl;clear hrb d10 d11;intro l1 J101 ul1 j101 hl1;clear ul1;replace sg:=λ (_:Unit)=>(sg ()).ext j101;replace hp:=j101.at hp;replace hS:=j101.2 K a _ hS;replace eb:=eb.trans j101;clear j101;have tA:aB J101 l1 (axL []):=⟨_,hl1,Al.nil⟩;clear hl1;ac_rfl;intro bv dx102 G102 hx102 hd102 hq102 g102 k102 kk102;rw [bU];refine⟨dx102,[],k102,aB.ext tA g102,ve ⟨by omega,by omega⟩,λ J102 D102 gg102 hD102 hx102' tt102=>?_⟩;have j102:=gg102 J101 g102 hx102;have vbv:aA t.a_View J102 bv rb 0 ([].map aU):=⟨dx102,D102,hx102',tt102⟩;exists vbv;clear k102 kk102 hx102 hd102 hq102 g102 gg102 hD102 hx102' tt102;replace sg:=λ (_:Unit)=>(sg ()).ext j102;replace hp:=j102.at hp;replace hS:=j102.2 K a _ hS;replace eb:=eb.trans j102;clear j102;clear tA;ac_rfl;intro far dx103 G103 hx103 hd103 hq103 g103 k103 kk103;rw [cA];refine⟨dx103,k103,λ J103 gg103 hfar=>?_⟩;have j103:=gg103 J102 g103 hx103;clear k103 kk103 hx103 hd103 hq103 g103 gg103;replace sg:=λ (_:Unit)=>(sg ()).ext j103;replace vbv:=λ (_:Unit)=>(vbv ()).ext j103;replace hp:=j103.at hp;replace hS:=j103.2 K a _ hS;replace eb:=eb.trans j103;clear j103;have sfar:SxY t J103 (1,rb,1) (.ref far):=⟨far,rfl,mi hfar (vS (vbv ()))⟩;exists sfar;clear hfar;clear vbv;ac_rfl;rw [bR];refine⟨hS,hl,⟨by decide,by decide⟩,by decide,λ d2 d20 d21=>?_⟩;obtain⟨n,hn0⟩:∃ n,4097+d2=n:=⟨_,rfl⟩;have hn1:4097<=n:=by omega
  have hn2:n<=1100000:=by omega
  ac_rfl;clear hn0 d20 d21;intro t3 J104 ut3 j104 ht3;clear ut3;replace sg:=λ (_:Unit)=>(sg ()).ext j104;replace sfar:=λ (_:Unit)=>(sfar ()).ext j104;replace hp:=j104.at hp;replace hS:=j104.2 K a _ hS;replace eb:=eb.trans j104;clear j104;ac_rfl;intro l4 J105 ul4 j105 hl4;clear ul4;replace sg:=λ (_:Unit)=>(sg ()).ext j105;replace sfar:=λ (_:Unit)=>(sfar ()).ext j105;replace hp:=j105.at hp;replace ht3:=j105.at ht3;replace hS:=j105.2 K a _ hS;replace eb:=eb.trans j105;clear j105;have tA:aB J105 l4 (axL [(n,0)]):=⟨_,hl4,Al.cons' ⟨t3,rfl,ht3⟩ Al.nil⟩;clear ht3 hl4;ac_rfl;intro mv dx106 G106 hx106 hd106 hq106 g106 k106 kk106;rw [bU];refine⟨dx106,[(n,0)],k106,aB.ext tA g106,Bh (p:=0) ⟨by omega,by omega⟩ ⟨by decide,by omega⟩ ⟨by omega,by omega⟩,λ J106 D106 gg106 hD106 hx106' tt106=>?_⟩;have j106:=gg106 J105 g106 hx106;have vmv:aA t.a_View J106 mv room 0 ([(n,0)].map aU):=⟨dx106,D106,hx106',tt106⟩;exists vmv;clear k106 kk106 hx106 hd106 hq106 g106 gg106 hD106 hx106' tt106;replace sg:=λ (_:Unit)=>(sg ()).ext j106;replace sfar:=λ (_:Unit)=>(sfar ()).ext j106;replace hp:=j106.at hp;replace hS:=j106.2 K a _ hS;replace eb:=eb.trans j106;clear j106;clear tA;ac_rfl;intro many dx107 G107 hx107 hd107 hq107 g107 k107 kk107;rw [cA];refine⟨dx107,k107,λ J107 gg107 hmany=>?_⟩;have j107:=gg107 J106 g107 hx107;clear k107 kk107 hx107 hd107 hq107 g107 gg107;replace sg:=λ (_:Unit)=>(sg ()).ext j107;replace sfar:=λ (_:Unit)=>(sfar ()).ext j107;replace vmv:=λ (_:Unit)=>(vmv ()).ext j107;replace hp:=j107.at hp;replace hS:=j107.2 K a _ hS;replace eb:=eb.trans j107;clear j107;have smany:SxY t J107 (1,room,n) (.ref many):=⟨many,rfl,mi hmany (CU (n:=n) ⟨by omega,by omega⟩ (vmv ()))⟩;exists smany;clear hmany;clear vmv;have hMr:-4611686018427387904<=(M:Int)/\(M:Int) < 4611686018427387904:=⟨by omega,by omega⟩;have hnr:-4611686018427387904<=n/\n < 4611686018427387904:=⟨by omega,by omega⟩;ac_rfl;refine ia (λ i σ H'=>∃ v7 v8:Option V,σ=[some (.ref a),some (.int room),some (.ref gp),some (.int (M:Int)),some (.ref far),some (.int n),some (.ref many),v7,v8]/\Ext J107 H') ⟨none,none,rfl,Ext.refl _⟩ ?_ ?_
  ·clear kk hS;rintro i _ H1 hi ⟨v7,v8,rfl,e1⟩;have hi0:(0:Int)<=(i:Int):=by omega
   have hi1:(i:Int)<=1:=by omega
   have hz0:0+(i:Int)=(i:Int):=by omega
   have hp1:=e1.at hp;have sg1:=λ (_:Unit)=>(sg ()).ext e1;have sfar1:=λ (_:Unit)=>(sfar ()).ext e1;have smany1:=λ (_:Unit)=>(smany ()).ext e1;clear hi hp eb sg sfar smany;simp! only [↓aD,hz0];intro st dx301 J301 hx301 hd301 hq301 j301 hst hh301;clear hx301 hd301 hq301 hh301;replace sg1:=λ (_:Unit)=>(sg1 ()).ext j301;replace sfar1:=λ (_:Unit)=>(sfar1 ()).ext j301;replace smany1:=λ (_:Unit)=>(smany1 ()).ext j301;replace hp1:=j301.at hp1;replace e1:=e1.trans j301;clear j301;have sst:SxY t J301 (0,room,0) (.ref st):=⟨st,rfl,StX.zero hst⟩;exists sst;clear hst;ac_rfl;intro b1 J302 ub1 j302 hb1;clear ub1;replace sg1:=λ (_:Unit)=>(sg1 ()).ext j302;replace sfar1:=λ (_:Unit)=>(sfar1 ()).ext j302;replace smany1:=λ (_:Unit)=>(smany1 ()).ext j302;replace sst:=λ (_:Unit)=>(sst ()).ext j302;replace hp1:=j302.at hp1;replace e1:=e1.trans j302;clear j302;ac_rfl;refine⟨by omega,by omega,by rw [Mz];exact aC (by simp;omega),?_⟩;rw [Mz];ac_rfl;intro xa J303 uxa j303 hxa;clear uxa;replace sg1:=λ (_:Unit)=>(sg1 ()).ext j303;replace sfar1:=λ (_:Unit)=>(sfar1 ()).ext j303;replace smany1:=λ (_:Unit)=>(smany1 ()).ext j303;replace sst:=λ (_:Unit)=>(sst ()).ext j303;replace hp1:=j303.at hp1;replace e1:=e1.trans j303;clear j303;clear hb1
   have tl:yC t J303 xa "many" (M:Int):=by
    refine⟨(List.replicate M [(0,room,0)]).flatten,⟨_,hxa,Bc (sst ()) M⟩,by rw [gj];simp;omega,.inl ⟨by rw [gj];simp;omega,rfl,by rw [gj];simp⟩⟩
   exists tl;clear hxa;ac_rfl;rw [gL];refine⟨hi0,hi1, "many",(M:Int),tl (),λ rt J304 urt j304 hrt=>?_⟩;clear tl urt;replace sg1:=λ (_:Unit)=>(sg1 ()).ext j304;replace sfar1:=λ (_:Unit)=>(sfar1 ()).ext j304;replace smany1:=λ (_:Unit)=>(smany1 ()).ext j304;replace sst:=λ (_:Unit)=>(sst ()).ext j304;replace hp1:=j304.at hp1;replace e1:=e1.trans j304;clear j304;ac_rfl;intro due J305 udue j305 hdue;clear udue;replace sg1:=λ (_:Unit)=>(sg1 ()).ext j305;replace sfar1:=λ (_:Unit)=>(sfar1 ()).ext j305;replace smany1:=λ (_:Unit)=>(smany1 ()).ext j305;replace sst:=λ (_:Unit)=>(sst ()).ext j305;replace hp1:=j305.at hp1;replace hrt:=j305.at hrt;replace e1:=e1.trans j305;clear j305;ac_rfl;clear hrt hdue;clear sst;intro b2 J306 ub2 j306 hb2;clear ub2;replace sg1:=λ (_:Unit)=>(sg1 ()).ext j306;replace sfar1:=λ (_:Unit)=>(sfar1 ()).ext j306;replace smany1:=λ (_:Unit)=>(smany1 ()).ext j306;replace hp1:=j306.at hp1;replace e1:=e1.trans j306;clear j306;refine er hb2 hp1 (aC (by simp)) ?_;intro c2 J307 _ j307 hc2;replace sg1:=λ (_:Unit)=>(sg1 ()).ext j307;replace sfar1:=λ (_:Unit)=>(sfar1 ()).ext j307;replace smany1:=λ (_:Unit)=>(smany1 ()).ext j307;replace hp1:=j307.at hp1;replace e1:=e1.trans j307;clear j307;clear hb2;ac_rfl;intro b3 J308 ub3 j308 hb3;clear ub3;replace sg1:=λ (_:Unit)=>(sg1 ()).ext j308;replace sfar1:=λ (_:Unit)=>(sfar1 ()).ext j308;replace smany1:=λ (_:Unit)=>(smany1 ()).ext j308;replace hp1:=j308.at hp1;replace hc2:=j308.at hc2;replace e1:=e1.trans j308;clear j308;refine er hc2 hb3 (aC (by simp)) ?_;intro xb J309 _ j309 hxb;replace sg1:=λ (_:Unit)=>(sg1 ()).ext j309;replace sfar1:=λ (_:Unit)=>(sfar1 ()).ext j309;replace smany1:=λ (_:Unit)=>(smany1 ()).ext j309;replace hp1:=j309.at hp1;replace e1:=e1.trans j309;clear j309;clear hb3 hc2
   have tl:yC t J309 xb "pair" 0:=by
    exact⟨[(1,rb,1),(1,room,1),(1,room,n)],⟨_,hxb,Al.cons' (sfar1 ()) (Al.cons' (sg1 ()) (Al.cons' (smany1 ()) Al.nil))⟩,by simp,.inr (.inl ⟨by simp,⟨(1,room,1),by simp,(1,rb,1),by simp,Mb 1,Mb 1,(show room ≠ rb by omega)⟩,rfl,rfl⟩)⟩
   exists tl;clear hxb;ac_rfl;rw [gL];refine⟨hi0,hi1, "pair",0,tl (),λ rt J310 urt j310 hrt=>?_⟩;clear tl urt;replace sg1:=λ (_:Unit)=>(sg1 ()).ext j310;replace sfar1:=λ (_:Unit)=>(sfar1 ()).ext j310;replace smany1:=λ (_:Unit)=>(smany1 ()).ext j310;replace hp1:=j310.at hp1;replace e1:=e1.trans j310;clear j310;ac_rfl;intro due J311 udue j311 hdue;clear udue;replace sg1:=λ (_:Unit)=>(sg1 ()).ext j311;replace sfar1:=λ (_:Unit)=>(sfar1 ()).ext j311;replace smany1:=λ (_:Unit)=>(smany1 ()).ext j311;replace hp1:=j311.at hp1;replace hrt:=j311.at hrt;replace e1:=e1.trans j311;clear j311;ac_rfl;clear hrt hdue;intro b4 J312 ub4 j312 hb4;clear ub4;replace sg1:=λ (_:Unit)=>(sg1 ()).ext j312;replace sfar1:=λ (_:Unit)=>(sfar1 ()).ext j312;replace smany1:=λ (_:Unit)=>(smany1 ()).ext j312;replace hp1:=j312.at hp1;replace e1:=e1.trans j312;clear j312;refine er hb4 hp1 (aC (by simp)) ?_;intro xc J313 _ j313 hxc;replace sg1:=λ (_:Unit)=>(sg1 ()).ext j313;replace sfar1:=λ (_:Unit)=>(sfar1 ()).ext j313;replace smany1:=λ (_:Unit)=>(smany1 ()).ext j313;replace hp1:=j313.at hp1;replace e1:=e1.trans j313;clear j313;clear hb4
   have tl:yC t J313 xc "many" n:=by
    refine⟨[(1,room,n),(1,room,1)],⟨_,hxc,Al.cons' (smany1 ()) (Al.cons' (sg1 ()) Al.nil)⟩,by simp,.inr (.inr ⟨by simp,iV (room:=room) (by simp),⟨n,(1,room,n),by simp,Mb 1,rfl,by omega⟩,λ m hm=>?_,rfl⟩)⟩;obtain⟨x,hx,hx1,hm1,hm2⟩:=hm;simp only [ML,MK,N8] at hx
    rcases hx with rfl|rfl
    ·first|exact hm1.symm|(have hm1':_=m:=hm1;simp only at hm1' hx1;omega)
    ·first|exact hm1.symm|(have hm1':_=m:=hm1;simp only at hm1' hx1;omega)
   exists tl;clear hxc;ac_rfl;rw [gL];refine⟨hi0,hi1, "many",n,tl (),λ rt J314 urt j314 hrt=>?_⟩;clear tl urt;replace sg1:=λ (_:Unit)=>(sg1 ()).ext j314;replace sfar1:=λ (_:Unit)=>(sfar1 ()).ext j314;replace smany1:=λ (_:Unit)=>(smany1 ()).ext j314;replace hp1:=j314.at hp1;replace e1:=e1.trans j314;clear j314;ac_rfl;intro due J315 udue j315 hdue;clear udue;replace sg1:=λ (_:Unit)=>(sg1 ()).ext j315;replace sfar1:=λ (_:Unit)=>(sfar1 ()).ext j315;replace smany1:=λ (_:Unit)=>(smany1 ()).ext j315;replace hp1:=j315.at hp1;replace hrt:=j315.at hrt;replace e1:=e1.trans j315;clear j315;ac_rfl;clear hrt hdue;intro b5 J316 ub5 j316 hb5;clear ub5;replace sg1:=λ (_:Unit)=>(sg1 ()).ext j316;replace sfar1:=λ (_:Unit)=>(sfar1 ()).ext j316;replace smany1:=λ (_:Unit)=>(smany1 ()).ext j316;replace hp1:=j316.at hp1;replace e1:=e1.trans j316;clear j316;ac_rfl;refine⟨by omega,by omega,by rw [Mz];exact aC (by simp;omega),?_⟩;rw [Mz];ac_rfl;intro xd J317 uxd j317 hxd;clear uxd;replace sg1:=λ (_:Unit)=>(sg1 ()).ext j317;replace sfar1:=λ (_:Unit)=>(sfar1 ()).ext j317;replace smany1:=λ (_:Unit)=>(smany1 ()).ext j317;replace hp1:=j317.at hp1;replace e1:=e1.trans j317;clear j317;clear hb5
   have tl:yC t J317 xd "many" (M:Int):=by
    refine⟨(List.replicate M [(1,rb,1)]).flatten,⟨_,hxd,Bc (sfar1 ()) M⟩,by rw [gj];simp;omega,.inl ⟨by rw [gj];simp;omega,rfl,by rw [gj];simp⟩⟩
   exists tl;clear hxd;ac_rfl;rw [gL];refine⟨hi0,hi1, "many",(M:Int),tl (),λ rt J318 urt j318 hrt=>?_⟩;clear tl urt;replace sg1:=λ (_:Unit)=>(sg1 ()).ext j318;replace sfar1:=λ (_:Unit)=>(sfar1 ()).ext j318;replace smany1:=λ (_:Unit)=>(smany1 ()).ext j318;replace hp1:=j318.at hp1;replace e1:=e1.trans j318;clear j318;ac_rfl;intro due J319 udue j319 hdue;clear udue;replace sg1:=λ (_:Unit)=>(sg1 ()).ext j319;replace sfar1:=λ (_:Unit)=>(sfar1 ()).ext j319;replace smany1:=λ (_:Unit)=>(smany1 ()).ext j319;replace hp1:=j319.at hp1;replace hrt:=j319.at hrt;replace e1:=e1.trans j319;clear j319;ac_rfl;clear hrt hdue;intro q1 J320 uq1 j320 hq1;clear uq1;replace sg1:=λ (_:Unit)=>(sg1 ()).ext j320;replace sfar1:=λ (_:Unit)=>(sfar1 ()).ext j320;replace smany1:=λ (_:Unit)=>(smany1 ()).ext j320;replace hp1:=j320.at hp1;replace e1:=e1.trans j320;clear j320;ac_rfl;intro st2 dx321 J321 hx321 hd321 hq321 j321 hst2 hh321;clear hx321 hd321 hq321 hh321;replace sg1:=λ (_:Unit)=>(sg1 ()).ext j321;replace sfar1:=λ (_:Unit)=>(sfar1 ()).ext j321;replace smany1:=λ (_:Unit)=>(smany1 ()).ext j321;replace hp1:=j321.at hp1;replace hq1:=j321.at hq1;replace e1:=e1.trans j321;clear j321;have sst2:SxY t J321 (0,room,0) (.ref st2):=⟨st2,rfl,StX.zero hst2⟩;exists sst2;clear hst2;ac_rfl;intro q2 J322 uq2 j322 hq2;clear uq2;replace sg1:=λ (_:Unit)=>(sg1 ()).ext j322;replace sfar1:=λ (_:Unit)=>(sfar1 ()).ext j322;replace smany1:=λ (_:Unit)=>(smany1 ()).ext j322;replace sst2:=λ (_:Unit)=>(sst2 ()).ext j322;replace hp1:=j322.at hp1;replace hq1:=j322.at hq1;replace e1:=e1.trans j322;clear j322;ac_rfl;intro st3 dx323 J323 hx323 hd323 hq323 j323 hst3 hh323;clear hx323 hd323 hq323 hh323;replace sg1:=λ (_:Unit)=>(sg1 ()).ext j323;replace sfar1:=λ (_:Unit)=>(sfar1 ()).ext j323;replace smany1:=λ (_:Unit)=>(smany1 ()).ext j323;replace sst2:=λ (_:Unit)=>(sst2 ()).ext j323;replace hp1:=j323.at hp1;replace hq1:=j323.at hq1;replace hq2:=j323.at hq2;replace e1:=e1.trans j323;clear j323;have sst3:SxY t J323 (0,room,0) (.ref st3):=⟨st3,rfl,StX.zero hst3⟩;exists sst3;clear hst3;ac_rfl;intro q3 J324 uq3 j324 hq3;clear uq3;replace sg1:=λ (_:Unit)=>(sg1 ()).ext j324;replace sfar1:=λ (_:Unit)=>(sfar1 ()).ext j324;replace smany1:=λ (_:Unit)=>(smany1 ()).ext j324;replace sst2:=λ (_:Unit)=>(sst2 ()).ext j324;replace sst3:=λ (_:Unit)=>(sst3 ()).ext j324;replace hp1:=j324.at hp1;replace hq1:=j324.at hq1;replace hq2:=j324.at hq2;replace e1:=e1.trans j324;clear j324;ac_rfl;intro ql J325 uql j325 hql;clear uql;replace sg1:=λ (_:Unit)=>(sg1 ()).ext j325;replace sfar1:=λ (_:Unit)=>(sfar1 ()).ext j325;replace smany1:=λ (_:Unit)=>(smany1 ()).ext j325;replace sst2:=λ (_:Unit)=>(sst2 ()).ext j325;replace sst3:=λ (_:Unit)=>(sst3 ()).ext j325;replace hp1:=j325.at hp1;replace hq1:=j325.at hq1;replace hq2:=j325.at hq2;replace hq3:=j325.at hq3;replace e1:=e1.trans j325;clear j325
   have rowL:∀ y∈[V.ref q1,V.ref q2,V.ref q3],∃ q,y=V.ref q/\yC t J325 q "many" n:=by
    intro y hy;simp only [ML,MK,N8] at hy
    rcases hy with rfl|rfl|rfl
    ·refine⟨q1,rfl,?_⟩;refine⟨[(1,room,n)],⟨_,hq1,Al.cons' (smany1 ()) Al.nil⟩,by simp,.inr (.inr ⟨by simp,iV (room:=room) (by simp),⟨n,(1,room,n),by simp,Mb 1,rfl,by omega⟩,λ m hm=>?_,rfl⟩)⟩;obtain⟨x,hx,hx1,hm1,hm2⟩:=hm;simp only [ML,MK,N8] at hx
     rcases hx with rfl
     ·first|exact hm1.symm|(have hm1':_=m:=hm1;simp only at hm1' hx1;omega)
    ·refine⟨q2,rfl,?_⟩;refine⟨[(0,room,0),(1,room,n)],⟨_,hq2,Al.cons' (sst2 ()) (Al.cons' (smany1 ()) Al.nil)⟩,by simp,.inr (.inr ⟨by simp,iV (room:=room) (by simp),⟨n,(1,room,n),by simp,Mb 1,rfl,by omega⟩,λ m hm=>?_,rfl⟩)⟩;obtain⟨x,hx,hx1,hm1,hm2⟩:=hm;simp only [ML,MK,N8] at hx
     rcases hx with rfl|rfl
     ·first|exact hm1.symm|(have hm1':_=m:=hm1;simp only at hm1' hx1;omega)
     ·first|exact hm1.symm|(have hm1':_=m:=hm1;simp only at hm1' hx1;omega)
    ·refine⟨q3,rfl,?_⟩;refine⟨[(1,room,n),(0,room,0)],⟨_,hq3,Al.cons' (smany1 ()) (Al.cons' (sst3 ()) Al.nil)⟩,by simp,.inr (.inr ⟨by simp,iV (room:=room) (by simp),⟨n,(1,room,n),by simp,Mb 1,rfl,by omega⟩,λ m hm=>?_,rfl⟩)⟩;obtain⟨x,hx,hx1,hm1,hm2⟩:=hm;simp only [ML,MK,N8] at hx
     rcases hx with rfl|rfl
     ·first|exact hm1.symm|(have hm1':_=m:=hm1;simp only at hm1' hx1;omega)
     ·first|exact hm1.symm|(have hm1':_=m:=hm1;simp only at hm1' hx1;omega)
   exists rowL;clear hq1 hq2 hq3 hp1 sst2 sst3 smany1 sg1 sfar1;generalize [V.ref q1,V.ref q2,V.ref q3]=ql3 at *;ac_rfl;refine aZ (xs:=ql3) (λ j σ H'=>∃ v8:Option V,σ=[some (.ref a),some (.int room),some (.ref gp),some (.int (M:Int)),some (.ref far),some (.int n),some (.ref many),some (.int (i:Int)),v8]/\Ext J325 H') ⟨_,rfl,Ext.refl _⟩ (λ j σ H' _ ⟨_,_,e⟩=>e.at hql) ?_ ?_
   ·rintro j y _ H2 hj ⟨v8',rfl,e2⟩;obtain⟨q,rfl,tq⟩:=rowL () y (Mu hj);exists tq;clear hj rowL hql;simp! only [↓aD];rw [gL];refine⟨hi0,hi1, "many",n,(tq ()).ext e2,λ rt H3 urt e3 hrt=>?_⟩;have e23:=e2.trans e3;clear tq urt e2 e3;ac_rfl;intro due H4 _ e4 hdue;have hrt4:=e4.at hrt;have e24:=e23.trans e4;clear hrt e23 e4;ac_rfl
    first|exact⟨_,rfl,e24⟩|exact⟨_,rfl⟩|exact⟨rfl,e24⟩|exact e24
   ·rintro _ H2 ⟨v8',rfl,e2⟩;have e12:=e1.trans e2;clear e1 e2 rowL hql;ac_rfl;exact⟨_,_,rfl,e12⟩
  ·rintro _ H1 ⟨v7,v8,rfl,e1⟩;have k2:=kk () H1 (eb.trans e1);clear kk eb e1 hS hp sg sfar smany;ac_rfl
theorem Bs{ds:List Sd}{fs:List (Nat × Option Nat)}{L:List Nat}(dl:DlP ds fs)(hf:fs.length=ds.length)(hL:L.length=ds.length)(lv:LvS ds (bK L) L.length):∀ k,k < ds.length->aE fs k=bK L k:=by
 have h1:=dl.lv;rw [hf] at h1;rw [hL] at lv;exact h1.le lv
theorem vM{ds:List Sd}{fs:List (Nat × Option Nat)}{L:List Nat}{M:Nat}(he:∀ k,k < ds.length->aE fs k=bK L k)(hf:fs.length=ds.length)(hL:L.length=ds.length)(h:sq fs M):gi L M:=by
 refine⟨λ k hk=>by rw [←he k %[0|8]];exact h.1 k %[0|8],?_⟩
 rcases h.2 with h|⟨k,hk,h⟩
 ·exact .inl h
 ·exact .inr ⟨k,by omega,by rw [←he k %[0|8]];exact h⟩
theorem pX{ds:List Sd}{G H:Hp}{r:Addr}{L:List Nat}(h:nQ ds G H r)(hL:L.length=ds.length)(lv:LvS ds (bK L) L.length):∃ M,gi L M/\RwL H r ((List.range M).map (pC L)):=by
 obtain⟨fs,qs,hf,dl,hm,td⟩:=h;have he:=Bs dl hf hL lv;refine⟨qs.length,vM he hf hL hm,qs.map V.ref,td.t,by rw [Md,Md,MY],λ i c y hc hy=>?_⟩;rw [Mq] at hy hc;obtain⟨q,hq,rfl⟩:=Mg.mp hy;obtain⟨j,hj,rfl⟩:=Mg.mp hc
 have hji:j=i:=by
  have:=(L9.mp hj);obtain⟨_,h2⟩:=this;rw [List.getElem_range] at h2;exact h2.symm
 subst hji;refine⟨q,rfl,λ e=>?_,?_⟩
 ·have:=(Nh.mp td.nd).1;rw [←e] at this;exact this (Mu hq)
 ·rw [td.ro j q hq]
  have:ui fs ds.length j=pC L j:=by
   unfold ui pC;rw [hL];refine List.filter_congr λ k hk=>?_;rw [he k (List.mem_range.mp hk)]
  rw [this]
theorem lS{ds:List Sd}{G H:Hp}{r:Addr}{L:List Nat}{M:Nat}{C:List (List Nat)}(h:nQ ds G H r)(hL:L.length=ds.length)(lv:LvS ds (bK L) L.length)(hM:gi L M)(hC:(List.range M).map (pC L)=C):RwL H r C:=by
 obtain⟨M',h1,h2⟩:=pX h hL lv;rw [ff h1 hM,hC] at h2;exact h2
theorem nQ.ex{ds:List Sd}{G H:Hp}{r:Addr}(h:nQ ds G H r):Ext G H:=by
 obtain⟨_,_,_,_,_,td⟩:=h;exact td.ex
theorem nP{ds:List Sd}{fs:List (Nat × Option Nat)}{L cs:List Nat}(hf:fs.length=ds.length)(dl:DlP ds fs)(hm:sq fs cs.length)(hc:IM fs cs)(hL:L.length=ds.length)(lv:LvS ds (bK L) L.length):gi L cs.length/\JE ds L cs:=by
 have he:=Bs dl hf hL lv;refine⟨vM he hf hL hm,λ i k hk=>?_⟩;obtain⟨h1,h2,h3⟩:=hc i k hk;refine⟨by omega,by rw [←he k %[0|8]];exact h2,λ j hj=>?_⟩;have h4:=h3 j hj
 cases hb:kA fs k with
 | none=>
  have:=(dl.bef k h1).1 hb;omega
 | some k'=>
  rw [hb] at h4;obtain⟨q1,q2,_⟩:=(dl.bef k h1).2 k' hb;exact⟨k',h4,q1,q2⟩
theorem Bi(ds:List Sd):LvS ds (bK []) 0:=λ k hk=>absurd hk (M4 _)
theorem rE:gi [] 0:=⟨λ k hk=>absurd hk (M4 _),.inl rfl⟩
theorem BG(n k:Nat):atD (List.replicate n (0,0,[],[])) k=(0,0,[],[]):=by
 unfold atD;rw [getD_eq_getElem?_getD,List.getElem?_replicate]
 by_cases h:k < n
 ·rw [My h];rfl
 ·rw [Mw h];rfl
theorem CZ:¬ ClD (0,0,[],[]) (0,0,[],[]):=by
 rintro (⟨c,hc,_⟩|⟨c,hc,_⟩)<;>cases hc
theorem Bb(n:Nat):LvS (List.replicate n (0,0,[],[])) (bK (List.replicate n 0)) n:=λ k hk=>by
 have hz:∀ i,bK (List.replicate n 0) i=0:=λ i=>by
  unfold bK;rw [getD_eq_getElem?_getD,List.getElem?_replicate]
  by_cases h:i < n
  ·rw [My h];rfl
  ·rw [Mw h];rfl
 refine⟨λ i hi hc=>?_,.inl (hz k)⟩;rw [BG,BG] at hc;exact absurd hc CZ
theorem rj:gi (List.replicate 60 0) 1:=⟨by decide +kernel,.inr ⟨0,by decide,by decide⟩⟩
theorem zp:(List.range 1).map (pC (List.replicate 60 0))=[List.range 60]:=by decide +kernel
theorem A6{d0 d1:Sd}(h:ClD d0 d1):LvS [d0,d1] (bK [0,1]) 2:=λ k hk=>by
 have:k=0\/k=1:=by omega
 rcases this with rfl|rfl
 ·exact⟨λ i hi=>absurd hi (M4 _),.inl rfl⟩
 ·refine⟨λ i hi _=>?_,.inr ⟨0,by decide,h,rfl⟩⟩;have:i=0:=by omega
  subst this;decide
theorem qX:gi [0,1] 2:=⟨by decide +kernel,.inr ⟨1,by decide,rfl⟩⟩
theorem zh:(List.range 2).map (pC [0,1])=[[0],[1]]:=by decide +kernel
theorem zj{d0 d1 d2:Sd}(h02:ClD d0 d2)(h01:¬ ClD d0 d1)(h12:¬ ClD d1 d2):LvS [d0,d1,d2] (bK [0,0,1]) 3:=λ k hk=>by
 have:k=0\/k=1\/k=2:=by omega
 rcases this with rfl|rfl|rfl
 ·exact⟨λ i hi=>absurd hi (M4 _),.inl rfl⟩
 ·refine⟨λ i hi hc=>?_,.inl rfl⟩;have:i=0:=by omega
  subst this;exact absurd hc h01
 ·refine⟨λ i hi hc=>?_,.inr ⟨0,by decide,h02,rfl⟩⟩;have:i=0\/i=1:=by omega
  rcases this with rfl|rfl
  ·decide
  ·exact absurd hc h12
theorem sC:gi [0,0,1] 2:=⟨by decide +kernel,.inr ⟨2,by decide,rfl⟩⟩
theorem sy:(List.range 2).map (pC [0,0,1])=[[0,1],[2]]:=by decide +kernel
theorem wq{ds:List Sd}{cs:List Nat}(hm:gi [0,1] cs.length)(hc:JE ds [0,1] cs):cs=[0,1]:=by
 have hl:cs.length=2:=ff hm qX
 match cs,hl with
 | [x,y],_=>
  obtain⟨a1,a2,_⟩:=hc 0 x rfl;obtain⟨b1,b2,_⟩:=hc 1 y rfl;have a1':x < 2:=a1;have b1':y < 2:=b1;have:x=0\/x=1:=by omega
  have:y=0\/y=1:=by omega
  rcases ‹x=0\/x=1› with rfl|rfl<;>rcases ‹y=0\/y=1› with rfl|rfl
  ·cases b2
  ·rfl
  ·cases a2
  ·cases a2
theorem l9{C:Addr}{H:Hp}{x:Addr}{room f:Int}{A:List (Int × Int)}(ax:fF A)(hc:ak (A.map λ a=>a.1)<=4096)(v:aA C H x room f (A.map aU)):VwC C H x room (ai f A):=⟨f,_,v,ax.kept,by rw [ef];exact hc,lj f _ λ a ha=>(ax.2 a ha).1⟩
theorem iU{t:Adr}{H:Hp}{s dx u:Addr}{x:V}{room z:Int}{cs:List Int}(h:H s=some (.ins t.a_Fill dx [("to",.ref u),("value",x)]))(v:VwC t.a_View H u room cs):StR t H room (1,z,cs,[]) s:=⟨u,u,⟨(show 1 < 5 by decide),dx,x,h⟩,λ _=>v,λ q=>absurd q (show ¬ 2<=1 by decide)⟩
theorem qY{t:Adr}{H:Hp}{s dx:Addr}{room:Int}(h:H s=some (.ins t.a_Statement dx [])):StR t H room (0,0,[],[]) s:=⟨s,s,⟨(show 0 < 5 by decide),dx,.non,h⟩,λ q=>absurd q (show ¬ 1<=0 by decide),λ q=>absurd q (show ¬ 2<=0 by decide)⟩
theorem ma{a b:List Int}{x y:Int}:ClD (1,x,a,[]) (1,y,b,[]) ↔ ∃ c∈a,c∈b:=by
 constructor
 ·rintro (⟨c,h1,h2⟩|⟨c,h1,h2⟩)
  ·refine⟨c,h1,?_⟩
   rcases MA.mp h2 with h|h
   ·exact h
   ·cases h
  ·cases h2
 ·rintro ⟨c,h1,h2⟩;exact .inl ⟨c,h1,MJ _ h2⟩
theorem iT(c:Int):c∈ai 1 [(4096,0)] ↔ c=1:=by
 show c∈bN [1] (4096,0) ↔ _
 unfold bN;simp;constructor
 ·rintro ⟨_,h⟩;omega
 ·intro h;exact⟨⟨0,by decide⟩,h.symm⟩
theorem mh{cs:List Int}{a:Int × Int}{c k:Int}(hc:c∈cs)(h0:0<=k)(h1:k < a.1):c+k * a.2∈bN cs a:=by
 unfold bN;refine List.mem_flatMap.mpr ⟨c,hc,List.mem_map.mpr ⟨k.toNat,List.mem_range.mpr %[0|8],?_⟩⟩;rw [Int.toNat_of_nonneg h0]
theorem yZ{x y z:Int}(hx:0<=x/\x < 16)(hy:0<=y/\y < 16)(hz:0<=z/\z < 16):61 * x+67 * y+71 * z∈ai 0 [(16,61),(16,67),(16,71)]:=by
 show _∈bN (bN (bN [0] (16,61)) (16,67)) (16,71)
 have h:=mh (a:=(16,71)) (mh (a:=(16,67)) (mh (a:=(16,61)) (c:=0) (k:=x) (Mh.mpr rfl) hx.1 hx.2) hy.1 hy.2) hz.1 hz.2;rw [show 61 * x+67 * y+71 * z=0+x * 61+y * 67+z * 71 by omega];exact h
theorem vk:fF [((16:Int),(61:Int)),(16,67),(16,71)]:=⟨by simp,λ a ha=>by
 simp only [ML,MK,N8] at ha
 rcases ha with rfl|rfl|rfl<;>exact⟨by decide,by decide⟩⟩
theorem Cf:ja 2986 0 [(16,61),(16,67),(16,71)]:=⟨vk,by decide,by decide,by decide +kernel,by decide +kernel⟩
theorem EC{room f:Int}(hr:1<=room/\room<=1000000)(hf:0<=f/\f < room):ja room f []:=⟨⟨by simp,λ a ha=>by cases ha⟩,hr.1,by omega,by show (0:Int)<=f+ba [];have:ba []=0:=rfl;omega,by show f+bg [] < room;have:bg []=0:=rfl;omega⟩
theorem BB:fF []:=⟨by simp,λ a ha=>by cases ha⟩
theorem Gv:fF [((4096:Int),(0:Int))]:=⟨by simp,λ a ha=>by rw [Mh.mp ha];exact⟨by decide,by decide⟩⟩
theorem BI{α β:Type}{R:β->V->Prop}{f:α->β}{zs:List α}{ys:List V}(h:Al (λ z y=>R (f z) y) zs ys):Al R (zs.map f) ys:=⟨by rw [Md];exact h.1,λ i z y hz hy=>by
 rw [Mq] at hz;obtain⟨x,hx,rfl⟩:=Mg.mp hz;exact h.2 i x y hx hy⟩
def EO(d:Dd):Sd:=(d.2.1,0,ai d.2.2.1.2.1 d.2.2.1.2.2,ai d.2.2.2.2.1 d.2.2.2.2.2)
theorem DrD.s{zs:List Vz}{H:Hp}{room:Int}{r:Addr}{d:Dd}{y:V}(h:DrD zs H d y)(vz:VsZ H room r zs):DrS H room (EO d) y:=⟨d.1,_,_,_,_,h.1,h.a vz,rfl,rfl⟩
theorem StL.nil{t:Adr}{H:Hp}{room:Int}{p:Addr}(h:H p=some (.lst [])):StL t H room p []:=⟨[],h,Al.nil⟩
theorem vC{α:Type}(n:Nat)(x:α):(List.replicate n [x]).flatten=List.replicate n x:=by
 induction n with
 | zero=>rfl
 | succ n ih=>rw [Ni,NO,ih,Ni];rfl
theorem oK{α β:Type}{S:β->V->Prop}:∀ {zs:List α}{ys:List V},Al (λ (_:α) y=>∃ d,S d y) zs ys->∃ ds,Al S ds ys/\ds.length=zs.length
 | [],ys,h=>⟨[],by rw [List.length_eq_zero_iff.mp (show ys.length=0 from h.1)];exact Al.nil,rfl⟩
 | z::zs,[],h=>by have:=h.1;simp at this
 | z::zs,y::ys,h=>by
  obtain⟨d,hd⟩:=h.2 0 z y rfl rfl;obtain⟨ds,h1,h2⟩:=oK (zs:=zs) (ys:=ys) ⟨by have:=h.1;simpa using this,λ i a b ha hb=>h.2 (i+1) a b (by simpa using ha) (by simpa using hb)⟩;exact⟨d::ds,Al.cons' hd h1,by rw [Nw,Nw,h2]⟩
theorem BD{H:Hp}{a:Addr}{cs:List Nat}(ha:H a=some (.lst (cz cs))):hG H 6 (.ref a)=some (AU cs):=by
 show (H a).bind (yI (hG H 5))=_
 rw [ha,gO]
 show (aR (((cs.map λ (k:Nat)=>(k:Int)).map V.int).map (iL H (hG H 4)))).map PyData.list=_
 rw [dD];rfl
theorem vm{H:Hp}{a b:Addr}{cs:List Nat}{Q:VK}(ha:H a=some (.lst (cz cs)))(hb:H b=some (.lst (cz cs)))(q:Q (.bl false) H):qEq true (.ref a) (.ref b) H Q:=by
 rw [bS,BD ha,dZ,u0,BD hb,dZ,mJ];unfold AU;rw [i4,gz];simp;exact q
abbrev EM(K:PySem.W.Frag)(mg:Str->Option Value)(a:Addr)(H:Hp)(Q:VK)(E:XK):Prop:=∃ ns:List Int,SqL K H a (ns.map V.int)/\ns.length<=63/\(∀ p∈tqs,TbH mg H p.1 p.2)/\∀ H',Q (.bl true) H'
def uv(K:W.Frag)(mg:Str->Option Value):Sp:=λ vs H Q E=>∃ (a:Addr),vs=[.ref a]/\(EM K mg a H Q E)
theorem Ed(K:W.Frag)(mg:Str->Option Value){vs:List V}{H:Hp}{Q:VK}{E:XK}(h:uv K mg vs H Q E):vs.length=1:=gb h λ _=>rfl
theorem Gw(T:Tx K mg t):aW P w K mg base CX0 10 t.a_law t.d_law ["_law_script"] (uv K mg):=by
 refine T.F_law.ok hJ (λ vs H Q E h=>Ed _ _ h) (λ cdv A' outer s H vs Q E hr h=>?_)
 ·obtain⟨a,rfl,ns,hS,hl,hTb0,kk⟩:=h;have hTb:TbH mg H 476 (yB "dealt"):=hTb0 (476,yB "dealt") Mx;have hTc:TbH mg H 486 (yB "chain"):=hTb0 (486,yB "chain") (Mp _ Mx);have G__law_draw:=%[fB|41] a ns;have G__law_some:=%[o1|41] a ns;have G__law_drawn:=%[mU|41];have G__law_made:=%[o2|41];have G__law_levels:=%[kD|41];have G__law_due:=%[qh|41];have G__law_right:=%[mS|41];have G__law_chained:=%[j7|41];have G__law_refused:=%[j6|41] a ns;have G_rounds:=%[wL|41];have G_chain:=%[zI|41];have G_View___init__:=%[cG|41];have G_Fill___init__:=%[cH|41];refine⟨_,%[(@dX _ _ (1) _ _ _ _ hJ.nd rfl (Or.inr rfl) %[bB,%[0|2],%[_law_draw,%[%[0|0],%[%[0|2],%[%[0|2]|1]|1]|1]|3]|11] ∅ %[0|7]),%[(@dX _ _ (2) _ _ _ _ hJ.nd rfl (Or.inr rfl) %[_law_some,%[%[0|0],%[%[0|2],%[%[1|0]|1]|1]|1]|3] ∅ %[0|7]),%[%[3,hJ,%[_law_draw,%[%[0|0],%[%[0|2],%[%[bL,%[%[%[0|2],%[%[0|2]|1]|1]|12],(@gN _ _ _ _ _ _ _ _ _ yf ∅ T.z_int nofun %[(@lW _ _ _ _ _ _ _ _ (iA hr.units) %[_law_draw,%[%[0|0],%[%[0|2],%[%[0|2]|1]|1]|1]|3] %[0|2] (aw _))|1] ⋯ ⋯ ∅ ∅),(λ _ _=>rfl)|14]|1]|1]|1]|3]|4],%[%[(["_law_k", "_law_script", "_law_room", "_law_views", "_law_many", "_law_drawn_here", "_law_built", "_law_handed", "_law_levels_here", "_law_found", "_law_row", "_law_tall", "_law_wide", "_law_at"]),(1),(4),_,hJ.nd,rfl,(Or.inl rfl),(aQ (aa i6) ["_law_script", "_law_room", "_law_views", "_law_many", "_law_drawn_here", "_law_built", "_law_handed", "_law_levels_here", "_law_found", "_law_row", "_law_tall", "_law_wide", "_law_at"] rfl rfl nofun),rfl,%[∅,T.z_range,%[%[3|0]|1],∅|33],(λ C s₀ H₀ ex pn=>%[(0),_,(show List.Nodup (["_law_k", "_law_script", "_law_room", "_law_views", "_law_many", "_law_drawn_here", "_law_built", "_law_handed", "_law_levels_here", "_law_found", "_law_row", "_law_tall", "_law_wide", "_law_at"]:List Str) from by decide +kernel),rfl,(Or.inl rfl),%[0|7]|19]),(λ C s₀ H₀ ex pn=>(@bF _)),(λ C s₀ H₀ ex pn=>%[_law_drawn,%[%[3|0],%[%[_law_draw,%[%[1|0],%[%[bB,%[0|2],%[0|0]|11],%[%[uZ,%[0|2],%[0|2]|11]|1]|1]|1]|3]|1]|1]|3]),∅,(by intros;rfl),%[0|7]|38],%[%[(["_law_one", "_law_script", "_law_room", "_law_views", "_law_many", "_law_drawn_here", "_law_built", "_law_handed", "_law_levels_here", "_law_found", "_law_row", "_law_tall", "_law_wide", "_law_at"]),(1),(5),_,hJ.nd,rfl,(Or.inl rfl),(aQ (aa i6) ["_law_script", "_law_room", "_law_views", "_law_many", "_law_drawn_here", "_law_built", "_law_handed", "_law_levels_here", "_law_found", "_law_row", "_law_tall", "_law_wide", "_law_at"] rfl rfl nofun),rfl,%[%[4|0]|18],(λ C s₀ H₀ ex pn=>%[(0),_,(show List.Nodup (["_law_one", "_law_script", "_law_room", "_law_views", "_law_many", "_law_drawn_here", "_law_built", "_law_handed", "_law_levels_here", "_law_found", "_law_row", "_law_tall", "_law_wide", "_law_at"]:List Str) from by decide +kernel),rfl,(Or.inl rfl),%[0|7]|19]),(λ C s₀ H₀ ex pn=>(@bF _)),(λ C s₀ H₀ ex pn=>%[_law_made,%[%[0|0],%[%[2|0]|1]|1]|3]),∅,(by intros;rfl),%[0|7]|38],%[%[6,hJ,(@gN _ _ _ _ _ _ _ _ _ iu ∅ T.z_list nofun %[%[5|0]|1] ⋯ ⋯ ∅ ∅)|4],%[%[7,hJ,%[_law_levels,%[%[4|0]|1]|3]|4],%[%[8,hJ,%[rounds,%[%[6|0]|1]|3]|4],%[%[(PW.pt %[%[%[%[_law_right,%[%[8|0],%[%[_law_due,%[%[7|0]|1]|3]|1]|1]|3],(by intros;rfl)|26]|29],%[%[%[%[_law_chained,%[%[chain,%[%[6|0]|1]|3],%[%[4|0],%[%[7|0]|1]|1]|1]|3],(by intros;rfl)|26]|29]|32]|27]),%[%[(@dh _ _ _ _)|13]|10],(@ay _)|17],%[%[Mt,rfl,%[%[8|0]|18],%[9,hJ|5],%[%[%[Mo,MI,MH,bo,%[9|0],%[%[0|2]|1],∅,∅,∅,∅,∅|30],∅|16]|10],(by intros;rfl)|21],%[%[%[Mo,MI,MH,bo,%[8|0],%[%[(@aH _)|12]|1],∅,∅,∅,∅,∅|30],∅|16],%[%[(PW.pt %[%[(Gp hr.units),%[6|0],%[5|0],(aw _)|15],%[%[(bI hr.units),%[rounds,%[%[(@aH _)|12]|1]|3],%[(@aH _)|12],(aw _)|15],%[%[(bI hr.units),%[chain,%[%[(@aH _)|12]|1]|3],%[(@aH _)|12],(aw _)|15]|32]|27]|27]),%[%[(@dh _ _ _ _)|13]|10],(@ay _)|17],%[%[%[%[%[_law_refused,%[%[0|0],%[%[1|0],%[%[%[%[T.mk_Fill,G_Fill___init__,(hr.mono ⋯),∅,T.m_Fill,T.b_Fill___init__,.nil,bu,%[%[T.mk_View,G_View___init__,(hr.mono ⋯),∅,T.m_View,T.b_View___init__,.nil,bu,%[%[1|0],%[%[0|2],%[%[(@aH _)|12]|1]|1]|1],⋯,∅,∅|25],%[%[0|2]|1]|1],⋯,∅,∅|25]|1]|12]|1]|1]|1]|3],(by intros;rfl)|26]|29],%[%[(@dh _ _ _ _)|13]|10],(@ay _)|17],%[%[(PW.pt %[%[(bI hr.units),%[rounds,%[%[lX,%[%[(@hZ _ _ _ _ _ T.mk0_Statement ∅ T.m_Statement ⋯)|1]|12],%[0|2]|11]|1]|3],%[%[(@fA _ _ _ _ _ _ _ rfl ∅ T.z_list ∅ T.z_range %[%[0|2]|1] ∅ ∅ ∅)|1]|12],(aw _)|15],%[%[(bI hr.units),%[len,aL,%[%[chain,%[%[lX,%[%[(@hZ _ _ _ _ _ T.mk0_Statement ∅ T.m_Statement ⋯)|1]|12],%[0|2]|11]|1]|3]|1]|6],%[0|2],(aw _)|15]|32]|27]),%[%[(@dh _ _ _ _)|13]|10],(@ay _)|17],%[%[10,hJ,%[T.mk_Fill,G_Fill___init__,(hr.mono ⋯),∅,T.m_Fill,T.b_Fill___init__,.nil,bu,%[%[T.mk_View,G_View___init__,(hr.mono ⋯),∅,T.m_View,T.b_View___init__,.nil,bu,%[%[1|0],%[%[0|2],%[%[%[%[%[%[0|2],%[%[0|2]|1]|1]|22]|1]|12]|1]|1]|1],⋯,∅,∅|25],%[%[0|2]|1]|1],⋯,∅,∅|25]|4],%[%[(PW.pt %[%[(bI hr.units),%[rounds,%[%[%[%[10|0],%[%[T.mk_Fill,G_Fill___init__,(hr.mono ⋯),∅,T.m_Fill,T.b_Fill___init__,.nil,bu,%[%[T.mk_View,G_View___init__,(hr.mono ⋯),∅,T.m_View,T.b_View___init__,.nil,bu,%[%[1|0],%[%[0|2],%[%[(@aH _)|12]|1]|1]|1],⋯,∅,∅|25],%[%[0|2]|1]|1],⋯,∅,∅|25],%[%[10|0]|1]|1]|1]|12]|1]|3],%[%[%[%[%[0|2],%[%[0|2]|1]|1]|12],%[%[%[%[0|2]|1]|12]|1]|1]|12],(aw _)|15],%[%[(bI hr.units),%[chain,%[%[%[%[10|0],%[%[10|0]|1]|1]|12]|1]|3],%[%[%[0|2],%[%[0|2]|1]|1]|12],(aw _)|15]|32]|27]),%[%[(@dh _ _ _ _)|13]|10],(@ay _)|17],%[%[11,hJ,%[T.mk_View,G_View___init__,(hr.mono ⋯),∅,T.m_View,T.b_View___init__,.nil,bu,%[%[0|2],%[%[0|2],%[%[%[%[%[%[0|2],%[%[0|2]|1]|1]|22],%[%[%[%[0|2],%[%[0|2]|1]|1]|22],%[%[%[%[0|2],%[%[0|2]|1]|1]|22]|1]|1]|1]|12]|1]|1]|1],⋯,∅,∅|25]|4],%[%[12,hJ,%[bB,%[bB,%[fW,%[0|2],%[_law_draw,%[%[0|0],%[%[0|2],%[%[0|2]|1]|1]|1]|3]|11],%[fW,%[0|2],%[_law_draw,%[%[0|0],%[%[0|2],%[%[0|2]|1]|1]|1]|3]|11]|11],%[fW,%[0|2],%[_law_draw,%[%[0|0],%[%[0|2],%[%[0|2]|1]|1]|1]|3]|11]|11]|4],%[%[%[(bI hr.units),%[rounds,%[%[%[%[T.mk_Fill,G_Fill___init__,(hr.mono ⋯),∅,T.m_Fill,T.b_Fill___init__,.nil,bu,%[%[11|0],%[%[0|2]|1]|1],⋯,∅,∅|25],%[%[T.mk_Fill,G_Fill___init__,(hr.mono ⋯),∅,T.m_Fill,T.b_Fill___init__,.nil,bu,%[%[T.mk_View,G_View___init__,(hr.mono ⋯),∅,T.m_View,T.b_View___init__,.nil,bu,%[%[0|2],%[%[12|0],%[%[(@aH _)|12]|1]|1]|1],⋯,∅,∅|25],%[%[0|2]|1]|1],⋯,∅,∅|25]|1]|1]|12]|1]|3],%[%[%[%[%[0|2]|1]|12],%[%[%[%[0|2]|1]|12]|1]|1]|12],(aw _)|15],%[%[(@dh _ _ _ _)|13]|10],(@ay _)|17],%[%[%[%[_law_right,%[%[rounds,%[%[5|0]|1]|3],%[%[_law_due,%[%[7|0]|1]|3]|1]|1]|3],(@kR _ _ _ _ _ %[_law_chained,%[%[chain,%[%[5|0]|1]|3],%[%[4|0],%[%[7|0]|1]|1]|1]|3])|35]|13]|10]|9]|9]|9]|9]|9]|9]|9]|9]|9]|9]|9]|9]|9]|9]|9]|9]|9]|9]|9],?_⟩;rw [show au ["_law_script", "_law_room", "_law_views", "_law_many", "_law_drawn_here", "_law_built", "_law_handed", "_law_levels_here", "_law_found", "_law_row", "_law_tall", "_law_wide", "_law_at"] [.ref a]=[some (.ref a),none,none,none,none,none,none,none,none,none,none,none,none] from rfl];clear G__law_draw G__law_some G__law_drawn G__law_made G__law_levels G__law_due G__law_right G__law_chained G__law_refused G_rounds G_chain G_View___init__ G_Fill___init__ hTb0;exists kk;exists hTb;exists hTc;ac_rfl;rw [bR];refine⟨hS,hl,⟨by decide,by decide⟩,by decide,λ d1 d10 d11=>?_⟩;obtain⟨room,hro⟩:∃ room,20+d1=room:=⟨_,rfl⟩;have hr0:20<=room:=by omega
  have hr1:room<=60:=by omega
  ac_rfl;clear hro d10 d11;rw [yp];refine⟨rfl,hS,hl,by decide,by decide,hr0,hr1,λ vr H1 ⟨e1,zs,h1,hzl,vz⟩=>?_⟩;have hS1:=e1.2 K a _ hS;have tb1:=λ (_:Unit)=>(hTb ()).ext e1;have tc1:=λ (_:Unit)=>(hTc ()).ext e1;exists vz;clear hS e1 hTb hTc;ac_rfl;intro l22 H2 _ e2 h2;replace hS1:=e2.2 K a _ hS1;replace h1:=e2.at h1;replace vz:=λ (_:Unit)=>(vz ()).ext e2;replace tb1:=λ (_:Unit)=>(tb1 ()).ext e2;replace tc1:=λ (_:Unit)=>(tc1 ()).ext e2;clear e2;ac_rfl;rw [bR];refine⟨hS1,hl,⟨by decide,by decide⟩,by decide,λ d2 d20 d21=>?_⟩;ac_rfl
  obtain⟨c,hc,hc1,hc2⟩:∃ c:Int,atI [V.int 22,V.int 41] (if d2=1 then 1 else 0)=some (.int c)/\1<=c/\c<=41:=by
   split
   ·exact⟨41,rfl,by decide,by decide⟩
   ·exact⟨22,rfl,by decide,by decide⟩
  clear h2 d20 d21;ac_rfl;clear hc;rw [bR];refine⟨hS1,hl,⟨by decide,by decide⟩,hc1,λ m m0 m1=>?_⟩;obtain⟨N,hN⟩:∃ N:Nat,m=(N:Int):=⟨m.toNat,by omega⟩;subst hN;have hN41:N<=41:=by omega
  have hNr:-4611686018427387904<=(N:Int)/\(N:Int) < 4611686018427387904:=⟨by omega,by omega⟩;clear m0 m1 hc1 hc2;ac_rfl
  try rw [Mz]
  refine ow (List.range N) (λ _=>true) (λ (z:Nat) x H'=>x=.int (0+(z:Int))) (λ D (z:Nat) y H'=>∃ d:Dd,DrD zs H' d y) iz.1 iz.2 (λ D z y H1 H2 h e=>(let ⟨d,q⟩:=h;⟨d,q.ext e⟩)) (λ D z y H1 xs o h hD=>(let ⟨d,q⟩:=h;⟨d,q.upd hD⟩)) (aC (by rw [MY];omega)) ?_ ?_
  ·intro D z y H' N1 N0 hz hD e' _ hy k1 _;subst hy;have hz8:=Ng.mp hz;have hS':=e'.2 K a _ hS1;have h1':=e'.at h1;have vz':=λ (_:Unit)=>(vz ()).ext e';have k1':=k1 rfl;clear k1 hz hS1 kk h1 vz tb1 tc1;simp! only [↓aF,↓aK];rw [bR];refine⟨hS',hl,⟨by omega,by omega⟩,by decide,λ c c0 c1=>?_⟩;simp! only [↓aF,↓aK];rw [tY];refine⟨room,vr,zs,h1',vz' (),hzl,c0,λ d H2 e2 hd=>?_⟩;exact k1' _ H2 e2 ⟨d,hd⟩
  intro dp ys1 H3 hD1 e3 h3 al1;rw [ud] at al1;obtain⟨ds,ald,hdl⟩:=oK al1;rw [MY] at hdl;have hS3:=e3.2 K a _ hS1;have vz3:=λ (_:Unit)=>(vz ()).ext e3;have tb3:=λ (_:Unit)=>(tb1 ()).ext e3;have tc3:=λ (_:Unit)=>(tc1 ()).ext e3;have wk:=lO (K:=K) (R:=λ d y H'=>DrD zs H' d y) (λ _ _ _ _ h e=>h.ext e) h3 ald;have dsL:DsL H3 room dp (ds.map EO):=⟨ys1,h3,BI (ald.imp λ d y q=>q.s (vz3 ()))⟩;exists dsL;have hds:(ds.map EO).length<=41:=by rw [Md];omega
  clear al1 hD1 hS1 h1 vz e3 tb1 tc1;ac_rfl;refine ow ds (λ _=>true) (λ d y H'=>DrD zs H' d y) (λ D (d:Dd) y H'=>∃ s,y=.ref s/\StZ t D H' s d.2.1 room (ai d.2.2.1.2.1 d.2.2.1.2.2) (ai d.2.2.2.2.1 d.2.2.2.2.2)) wk.1 wk.2 (λ D z y H1 H2 h e=>(let ⟨s,a1,q⟩:=h;⟨s,a1,q.ext e⟩)) (λ D z y H1 xs o h hD=>(let ⟨s,a1,q⟩:=h;⟨s,a1,q.upd hD⟩)) (aC %[0|8]) ?_ ?_
  ·intro D d y H' N1 N0 hz hD e' hDl hy k1 _;have hda:=hy.a ((vz3 ()).ext e');obtain⟨rfl,_⟩:=hy;have k1':=k1 rfl;clear k1 hz kk wk dsL tb3 tc3;simp! only [↓aF,↓aK];rw [yr];refine⟨_,_,_,_,_,hda,by omega,by omega,λ s H3 e3 sf=>?_⟩;obtain⟨_,hDl'⟩:=hDl;exact k1' _ H3 e3 ⟨s,rfl,sf.z hDl'⟩
  intro bp ss H4 _ e4 h4 alb;rw [ud] at alb;have hS4:=e4.2 K a _ hS3;have tb4:=λ (_:Unit)=>(tb3 ()).ext e4;have tc4:=λ (_:Unit)=>(tc3 ()).ext e4;have dsL4:=λ (_:Unit)=>(dsL ()).ext e4;have alS:Al (StY t H4 room) (ds.map EO) ss:=BI (alb.imp λ d y ⟨s,q1,q2⟩=>⟨s,q1,q2.v⟩)
  have hsr:∀ v∈ss,∃ q,v=V.ref q:=λ v hv=>by
   obtain⟨i,hi,rfl⟩:=Nx hv;obtain⟨s,hs,_⟩:=alS.2 i _ _ (L8 (by rw [←alS.1];exact hi)) (L8 hi);exact⟨s,hs⟩
  exists alS;exists hsr;clear wk alb hS3 vz3 tb3 tc3 dsL e4 ald;generalize ds.map EO=dS at *;ac_rfl;intro hp H5 _ e5 h5;have hS5:=e5.2 K a _ hS4;have tb5:=λ (_:Unit)=>(tb4 ()).ext e5;have tc5:=λ (_:Unit)=>(tc4 ()).ext e5;have dsL5:=λ (_:Unit)=>(dsL4 ()).ext e5;have stL5:Unit->StL t H5 room hp dS:=λ _=>⟨ss,h5,(alS ()).imp λ _ _ q=>StY.ext q e5⟩;have stB5:Unit->StL t H5 room bp dS:=λ _=>⟨ss,e5.at h4,(alS ()).imp λ _ _ q=>StY.ext q e5⟩;have hbp5:=e5.at h4;clear hS4 tb4 tc4 dsL4 e5 h4 alS;ac_rfl;rw [tX];refine⟨room,dS,dsL5 (),by omega,λ lp G L eG _ hlp hLl hLv=>?_⟩;have hSG:=eG.2 K a _ hS5;have tbG:=λ (_:Unit)=>(tb5 ()).ext eG;have tcG:=λ (_:Unit)=>(tc5 ()).ext eG;have dsG:=λ (_:Unit)=>(dsL5 ()).ext eG;have stG:=λ (_:Unit)=>(stL5 ()).ext eG;have sbG:=λ (_:Unit)=>(stB5 ()).ext eG;have hpG:=eG.at h5;have hbG:=eG.at hbp5;exists hLv;have hL41:L.length<=41:=by omega
  clear hS5 tb5 tc5 dsL5 stL5 stB5 h5 hbp5 eG;ac_rfl;rw [cQ];refine⟨room,dS,stG (),by omega,tbG (),λ fr HR hR=>?_⟩;obtain⟨M,hmn,hrw⟩:=pX hR hLl (hLv ());have eR:=hR.ex;exists hR;exists hrw;exists hmn;have hlpR:=eR.at hlp;ac_rfl;rw [vY];refine⟨L,hlpR,by omega,(hLv ()).lt,λ du HD M' eD _ hmn' hrw'=>?_⟩;have hMM:=ff hmn' (hmn ());subst hMM;have hrwD:=(hrw ()).ext eD
  have hM42:M'<=41:=by
   rcases (hmn ()).2 with h|⟨k,hk,he⟩
   ·omega
   ·have:=(hLv ()).lt k hk;omega
  exists hrw';exists hrwD
  have hrlen:∀ c∈(List.range M').map (pC L),c.length<=100:=λ c hc=>by
   obtain⟨x,_,rfl⟩:=MM.mp hc;have:=NL (λ k=>decide (bK L k=x)) (List.range L.length);rw [MY] at this
   show (pC L x).length<=100
   unfold pC;omega
  have hclen:((List.range M').map (pC L)).length<=100:=by rw [Md,MY];omega
  exists hrlen;exists hclen;have eGD:=eR.trans eD;clear hmn' hlpR;ac_rfl;rw [oB];refine⟨_,hrwD (),hrw' (),hrlen (),hclen (),λ HX eX=>?_⟩;have eGX:=eGD.trans eX;have eRX:=eD.trans eX;clear hrwD hrw' hrw eGD eX eD;ac_rfl;rw [fh];refine⟨room,dS,(stG ()).ext eGX,by omega,(tbG ()).ext eGX,(tcG ()).ext eGX,λ cr HC cs fs eC hcr hf dl hm hch=>?_⟩;obtain⟨hcm,hcn⟩:=nP hf dl hm hch hLl (hLv ());have eGC:=eGX.trans eC;have eRC:=eRX.trans eC;have dsC:=λ (_:Unit)=>(dsG ()).ext eGC;have hlpC:=eGC.at hlp;exists hcm;exists hcn;clear hf dl hm hch eGX eRX eC;ac_rfl;rw [jO];refine⟨room,dS,L,cs,hcr,dsC (),hlpC,hLl,by omega,(hLv ()).lt,hcm (),hcn (),λ HE eE=>?_⟩;have eGE:=eGC.trans eE;have eRE:=eRC.trans eE;obtain⟨fs',qs,hf',dl',hm',td⟩:=hR ();have hfrE:=eRE.at td.t
  have hrows:∀ q∈qs,∃ xs,HE q=some (.lst xs)/\xs.length<=60:=λ q hq=>by
   obtain⟨i,hi,rfl⟩:=Nx hq;refine⟨_,eRE.at (td.ro i _ (L8 hi)),?_⟩;rw [fK];have:=qZ fs' dS.length i;omega
  have hq41:qs.length<=41:=by
   rcases hm'.2 with h|⟨k,hk,he⟩
   ·omega
   ·have:=dl'.lt k hk;omega
  have hqfr:=td.fr;have hqnd:=td.nd;exists hqfr;exists hqnd;exists hrows;clear td hf' dl' hm' hR hcr dsC hlpC hcm hcn eE eGC eRC eRE eR;ac_rfl;refine aZ (xs:=qs.map V.ref) (λ i σ H'=>∃ v9:Option V,σ=[some (.ref a),some (.int room),some (.ref vr),some (.int (N:Int)),some (.ref dp),some (.ref bp),some (.ref hp),some (.ref lp),some (.ref fr),v9,none,none,none]/\Ext G H'/\H' fr=some (.lst (qs.map V.ref))/\∀ q∈qs,∃ xs,H' q=some (.lst xs)/\xs.length<=60+i) ⟨none,rfl,eGE,hfrE,hrows ()⟩ (λ i σ H' _ ⟨_,_,_,h,_⟩=>h) ?_ ?_
  ·rintro i y _ H1 hi ⟨v9,rfl,e1,hf1,hr1'⟩;rw [Mq] at hi;obtain⟨q,hq,rfl⟩:=Mg.mp hi;have hqm:=Mu hq;have hi41:i < 41:=by have:=(L9.mp hq).1;omega
   obtain⟨xs,hx1,hx2⟩:=hr1' q hqm
   have hne:fr ≠ q:=λ e=>by
    have:=(Nh.mp (hqnd ())).1;rw [e] at this;exact this hqm
   have hq0:=hqfr () q (Mp _ hqm);have e2:Ext G (upd H1 q (.lst (xs++[.int 99]))):=e1.put hq0;have hf2:upd H1 q (.lst (xs++[.int 99])) fr=some (.lst (qs.map V.ref)):=by rw [ae hne];exact hf1
   have hr2:∀ q'∈qs,∃ xs',upd H1 q (.lst (xs++[.int 99])) q'=some (.lst xs')/\xs'.length<=60+(i+1):=λ q' hq'=>by
    by_cases hqq:q'=q
    ·rw [hqq,ag];exact⟨_,rfl,by rw [Ml,Mv];omega⟩
    ·rw [ae hqq];obtain⟨zs',a1,a2⟩:=hr1' q' hq';exact⟨zs',a1,by omega⟩
   have hxz:xs.length < sizeLine:=iJ %[0|8];exists hr2;exists hf2;clear hi hq hr1' kk hSG tbG tcG dsG stG sbG hpG hbG hlp hrows hfrE hqfr hqnd hf1;simp! only [↓aD];exact⟨_,rfl,e2,hf2 (),hr2 ()⟩
  rintro _ HF ⟨v9,rfl,eF,hfF,_⟩;clear hrows hfrE eGE;have hfr0:=hqfr () fr Mx;have hqz:(qs.map V.ref).length < sizeLine:=by rw [Md];exact iJ %[0|8]
  ac_rfl;intro em HM _ eM hM;have hfM:=eM.at hfF;have eF2:Ext G (upd HM fr (.lst (qs.map V.ref++[.ref em]))):=(eF.trans eM).put hfr0;clear hfF eF eM hM hqfr hqnd;ac_rfl;refine⟨iJ %[0|8],?_⟩;generalize upd HM fr (.lst (qs.map V.ref++[.ref em]))=HQ at *;have hS:=eF2.2 K a _ hSG;have tb:=λ (_:Unit)=>(tbG ()).ext eF2;have tc:=λ (_:Unit)=>(tcG ()).ext eF2;have dsL:=λ (_:Unit)=>(dsG ()).ext eF2;have sb:=λ (_:Unit)=>(sbG ()).ext eF2;have hpQ:=eF2.at hpG;have hbQ:=eF2.at hbG;have hlpQ:=eF2.at hlp;clear hSG tbG tcG dsG stG sbG hpG hbG hlp eF2 hfM;refine Cj hpQ hbQ (hsr ()) ?_;clear hpQ hbQ hsr;ac_rfl;intro n1 J101 un1 j101 hn1;clear un1;replace tb:=λ (_:Unit)=>(tb ()).ext j101;replace tc:=λ (_:Unit)=>(tc ()).ext j101;replace dsL:=λ (_:Unit)=>(dsL ()).ext j101;replace sb:=λ (_:Unit)=>(sb ()).ext j101;replace hlpQ:=j101.at hlpQ;replace hS:=j101.2 K a _ hS;clear j101;ac_rfl;rw [cQ];refine⟨room,[],StL.nil hn1,by simp,tb (),λ ra J102 hR=>?_⟩;have j102:=hR.ex;have wra:RwL J102 ra []:=lS (L:=[]) hR rfl (Bi _) rE rfl;clear hR;exists wra;replace tb:=λ (_:Unit)=>(tb ()).ext j102;replace tc:=λ (_:Unit)=>(tc ()).ext j102;replace dsL:=λ (_:Unit)=>(dsL ()).ext j102;replace sb:=λ (_:Unit)=>(sb ()).ext j102;replace hlpQ:=j102.at hlpQ;replace hS:=j102.2 K a _ hS;clear j102;clear hn1;ac_rfl;intro n2 J103 un2 j103 hn2;clear un2;replace tb:=λ (_:Unit)=>(tb ()).ext j103;replace tc:=λ (_:Unit)=>(tc ()).ext j103;replace dsL:=λ (_:Unit)=>(dsL ()).ext j103;replace sb:=λ (_:Unit)=>(sb ()).ext j103;replace wra:=λ (_:Unit)=>(wra ()).ext j103;replace hlpQ:=j103.at hlpQ;replace hS:=j103.2 K a _ hS;clear j103;simp! only [-bS,-bJ];refine jc (wra ()) (⟨[],hn2,Al.nil⟩:RwL J103 n2 []) ?_;clear wra;clear hn2;ac_rfl;intro n3 J104 un3 j104 hn3;clear un3;replace tb:=λ (_:Unit)=>(tb ()).ext j104;replace tc:=λ (_:Unit)=>(tc ()).ext j104;replace dsL:=λ (_:Unit)=>(dsL ()).ext j104;replace sb:=λ (_:Unit)=>(sb ()).ext j104;replace hlpQ:=j104.at hlpQ;replace hS:=j104.2 K a _ hS;clear j104;ac_rfl;rw [fh];refine⟨room,[],StL.nil hn3,by simp,tb (),tc (),λ ca J105 cs fs j105 hca hf dl hm hch=>?_⟩;have hcs:cs=[]:=Oc (ff (nP (L:=[]) hf dl hm hch rfl (Bi _)).1 rE);rw [hcs] at hca;clear hcs;clear hf dl hm hch;replace tb:=λ (_:Unit)=>(tb ()).ext j105;replace tc:=λ (_:Unit)=>(tc ()).ext j105;replace dsL:=λ (_:Unit)=>(dsL ()).ext j105;replace sb:=λ (_:Unit)=>(sb ()).ext j105;replace hlpQ:=j105.at hlpQ;replace hS:=j105.2 K a _ hS;clear j105;clear hn3;ac_rfl;intro n4 J106 un4 j106 hn4;clear un4;replace tb:=λ (_:Unit)=>(tb ()).ext j106;replace tc:=λ (_:Unit)=>(tc ()).ext j106;replace dsL:=λ (_:Unit)=>(dsL ()).ext j106;replace sb:=λ (_:Unit)=>(sb ()).ext j106;replace hlpQ:=j106.at hlpQ;replace hca:=j106.at hca;replace hS:=j106.2 K a _ hS;clear j106;simp! only [-bS,-bJ];refine vm hca (show J106 n4=some (.lst (cz [])) from hn4) ?_;clear hca hn4;ac_rfl;intro l1 J107 ul1 j107 hl1;clear ul1;replace tb:=λ (_:Unit)=>(tb ()).ext j107;replace tc:=λ (_:Unit)=>(tc ()).ext j107;replace dsL:=λ (_:Unit)=>(dsL ()).ext j107;replace sb:=λ (_:Unit)=>(sb ()).ext j107;replace hlpQ:=j107.at hlpQ;replace hS:=j107.2 K a _ hS;clear j107;have tA:aB J107 l1 (axL []):=⟨_,hl1,Al.nil⟩;clear hl1;ac_rfl;intro ov dx108 G108 hx108 hd108 hq108 g108 k108 kk108;rw [bU];refine⟨dx108,[],k108,aB.ext tA g108,ve ⟨by omega,by omega⟩,λ J108 D108 gg108 hD108 hx108' tt108=>?_⟩;have j108:=gg108 J107 g108 hx108;have vov:aA t.a_View J108 ov room 0 ([].map aU):=⟨dx108,D108,hx108',tt108⟩;exists vov;clear k108 kk108 hx108 hd108 hq108 g108 gg108 hD108 hx108' tt108;replace tb:=λ (_:Unit)=>(tb ()).ext j108;replace tc:=λ (_:Unit)=>(tc ()).ext j108;replace dsL:=λ (_:Unit)=>(dsL ()).ext j108;replace sb:=λ (_:Unit)=>(sb ()).ext j108;replace hlpQ:=j108.at hlpQ;replace hS:=j108.2 K a _ hS;clear j108;clear tA;ac_rfl;intro g dx109 G109 hx109 hd109 hq109 g109 k109 kk109;rw [cA];refine⟨dx109,k109,λ J109 gg109 hg=>?_⟩;have j109:=gg109 J108 g109 hx109;clear k109 kk109 hx109 hd109 hq109 g109 gg109;replace tb:=λ (_:Unit)=>(tb ()).ext j109;replace tc:=λ (_:Unit)=>(tc ()).ext j109;replace dsL:=λ (_:Unit)=>(dsL ()).ext j109;replace sb:=λ (_:Unit)=>(sb ()).ext j109;replace vov:=λ (_:Unit)=>(vov ()).ext j109;replace hlpQ:=j109.at hlpQ;replace hS:=j109.2 K a _ hS;clear j109;have sg:SxY t J109 (1,room,1) (.ref g):=⟨g,rfl,mi hg (vS (vov ()))⟩;exists sg;clear hg;clear vov;ac_rfl;intro gl J110 ugl j110 hgl;clear ugl;replace tb:=λ (_:Unit)=>(tb ()).ext j110;replace tc:=λ (_:Unit)=>(tc ()).ext j110;replace dsL:=λ (_:Unit)=>(dsL ()).ext j110;replace sb:=λ (_:Unit)=>(sb ()).ext j110;replace sg:=λ (_:Unit)=>(sg ()).ext j110;replace hlpQ:=j110.at hlpQ;replace hS:=j110.2 K a _ hS;clear j110;ac_rfl;rw [yq];refine⟨rfl,hS,hl,hr0,hr1,g,hgl,sg (),λ J111 j111=>?_⟩;clear hgl;clear sg;replace tb:=λ (_:Unit)=>(tb ()).ext j111;replace tc:=λ (_:Unit)=>(tc ()).ext j111;replace dsL:=λ (_:Unit)=>(dsL ()).ext j111;replace sb:=λ (_:Unit)=>(sb ()).ext j111;replace hlpQ:=j111.at hlpQ;replace hS:=j111.2 K a _ hS;clear j111;ac_rfl;intro st dx112 J112 hx112 hd112 hq112 j112 hst hh112;clear hx112 hd112 hq112 hh112;replace tb:=λ (_:Unit)=>(tb ()).ext j112;replace tc:=λ (_:Unit)=>(tc ()).ext j112;replace dsL:=λ (_:Unit)=>(dsL ()).ext j112;replace sb:=λ (_:Unit)=>(sb ()).ext j112;replace hlpQ:=j112.at hlpQ;replace hS:=j112.2 K a _ hS;clear j112;have sst:StY t J112 room (0,0,[],[]) (.ref st):=⟨st,rfl,qY hst⟩;exists sst;clear hst;ac_rfl;intro b5 J113 ub5 j113 hb5;clear ub5;replace tb:=λ (_:Unit)=>(tb ()).ext j113;replace tc:=λ (_:Unit)=>(tc ()).ext j113;replace dsL:=λ (_:Unit)=>(dsL ()).ext j113;replace sb:=λ (_:Unit)=>(sb ()).ext j113;replace sst:=λ (_:Unit)=>(sst ()).ext j113;replace hlpQ:=j113.at hlpQ;replace hS:=j113.2 K a _ hS;clear j113;ac_rfl;intro b6 J114 ub6 j114 hb6;clear ub6;replace tb:=λ (_:Unit)=>(tb ()).ext j114;replace tc:=λ (_:Unit)=>(tc ()).ext j114;replace dsL:=λ (_:Unit)=>(dsL ()).ext j114;replace sb:=λ (_:Unit)=>(sb ()).ext j114;replace sst:=λ (_:Unit)=>(sst ()).ext j114;replace hlpQ:=j114.at hlpQ;replace hS:=j114.2 K a _ hS;clear j114;clear hb5;have stL:StL t J114 room b6 (List.replicate 60 (0,0,[],[])):=by rw [←vC];exact⟨_,hb6,qT (Al.cons' (sst ()) Al.nil) 60⟩
  clear hb6;clear sst;ac_rfl;rw [cQ];refine⟨room,(List.replicate 60 (0,0,[],[])),stL,by simp,tb (),λ rb J115 hR=>?_⟩;have j115:=hR.ex;have wrb:RwL J115 rb [List.range 60]:=lS (L:=List.replicate 60 0) hR (by rw [Nl,Nl]) (by rw [Nl];exact Bb 60) rj zp;clear hR;exists wrb;replace tb:=λ (_:Unit)=>(tb ()).ext j115;replace tc:=λ (_:Unit)=>(tc ()).ext j115;replace dsL:=λ (_:Unit)=>(dsL ()).ext j115;replace sb:=λ (_:Unit)=>(sb ()).ext j115;replace hlpQ:=j115.at hlpQ;replace hS:=j115.2 K a _ hS;clear j115;clear stL;ac_rfl;rw [EZ];refine⟨by decide,by decide,?_⟩;ac_rfl;intro rg J116 urg j116 hrg;clear urg;replace tb:=λ (_:Unit)=>(tb ()).ext j116;replace tc:=λ (_:Unit)=>(tc ()).ext j116;replace dsL:=λ (_:Unit)=>(dsL ()).ext j116;replace sb:=λ (_:Unit)=>(sb ()).ext j116;replace wrb:=λ (_:Unit)=>(wrb ()).ext j116;replace hlpQ:=j116.at hlpQ;replace hS:=j116.2 K a _ hS;clear j116;ac_rfl;intro rl J117 url j117 hrl;have nrlrg:rg ≠ rl:=ah hrg url;clear url;replace tb:=λ (_:Unit)=>(tb ()).ext j117;replace tc:=λ (_:Unit)=>(tc ()).ext j117;replace dsL:=λ (_:Unit)=>(dsL ()).ext j117;replace sb:=λ (_:Unit)=>(sb ()).ext j117;replace wrb:=λ (_:Unit)=>(wrb ()).ext j117;replace hlpQ:=j117.at hlpQ;replace hrg:=j117.at hrg;replace hS:=j117.2 K a _ hS;clear j117;simp! only [-bS,-bJ];refine jc (wrb ()) (⟨_,hrl,Al.cons' ⟨rg,rfl,nrlrg,hrg⟩ Al.nil⟩:RwL J117 rl [List.range 60]) ?_;clear wrb;clear hrl hrg nrlrg;ac_rfl;intro st2 dx118 J118 hx118 hd118 hq118 j118 hst2 hh118;clear hx118 hd118 hq118 hh118;replace tb:=λ (_:Unit)=>(tb ()).ext j118;replace tc:=λ (_:Unit)=>(tc ()).ext j118;replace dsL:=λ (_:Unit)=>(dsL ()).ext j118;replace sb:=λ (_:Unit)=>(sb ()).ext j118;replace hlpQ:=j118.at hlpQ;replace hS:=j118.2 K a _ hS;clear j118;have sst:StY t J118 room (0,0,[],[]) (.ref st2):=⟨st2,rfl,qY hst2⟩;exists sst;clear hst2;ac_rfl;intro b7 J119 ub7 j119 hb7;clear ub7;replace tb:=λ (_:Unit)=>(tb ()).ext j119;replace tc:=λ (_:Unit)=>(tc ()).ext j119;replace dsL:=λ (_:Unit)=>(dsL ()).ext j119;replace sb:=λ (_:Unit)=>(sb ()).ext j119;replace sst:=λ (_:Unit)=>(sst ()).ext j119;replace hlpQ:=j119.at hlpQ;replace hS:=j119.2 K a _ hS;clear j119;ac_rfl;intro b8 J120 ub8 j120 hb8;clear ub8;replace tb:=λ (_:Unit)=>(tb ()).ext j120;replace tc:=λ (_:Unit)=>(tc ()).ext j120;replace dsL:=λ (_:Unit)=>(dsL ()).ext j120;replace sb:=λ (_:Unit)=>(sb ()).ext j120;replace sst:=λ (_:Unit)=>(sst ()).ext j120;replace hlpQ:=j120.at hlpQ;replace hS:=j120.2 K a _ hS;clear j120;clear hb7;have stL:StL t J120 room b8 (List.replicate 60 (0,0,[],[])):=by rw [←vC];exact⟨_,hb8,qT (Al.cons' (sst ()) Al.nil) 60⟩
  clear hb8;clear sst;ac_rfl;rw [fh];refine⟨room,(List.replicate 60 (0,0,[],[])),stL,by simp,tb (),tc (),λ cb J121 cs fs j121 hcb hf dl hm hch=>?_⟩;obtain⟨x1,hcs⟩:∃ x,cs=[x]:=List.length_eq_one_iff.mp (ff (nP (L:=List.replicate 60 0) hf dl hm hch (by rw [Nl,Nl]) (by rw [Nl];exact Bb 60)).1 rj);rw [hcs,show cz [x1]=[V.int (x1:Int)] from rfl] at hcb;clear hcs stL;clear hf dl hm hch;replace tb:=λ (_:Unit)=>(tb ()).ext j121;replace tc:=λ (_:Unit)=>(tc ()).ext j121;replace dsL:=λ (_:Unit)=>(dsL ()).ext j121;replace sb:=λ (_:Unit)=>(sb ()).ext j121;replace hlpQ:=j121.at hlpQ;replace hS:=j121.2 K a _ hS;clear j121;ac_rfl;intro t1 J122 ut1 j122 ht1;clear ut1;replace tb:=λ (_:Unit)=>(tb ()).ext j122;replace tc:=λ (_:Unit)=>(tc ()).ext j122;replace dsL:=λ (_:Unit)=>(dsL ()).ext j122;replace sb:=λ (_:Unit)=>(sb ()).ext j122;replace hlpQ:=j122.at hlpQ;replace hS:=j122.2 K a _ hS;clear j122;ac_rfl;intro l2 J123 ul2 j123 hl2;clear ul2;replace tb:=λ (_:Unit)=>(tb ()).ext j123;replace tc:=λ (_:Unit)=>(tc ()).ext j123;replace dsL:=λ (_:Unit)=>(dsL ()).ext j123;replace sb:=λ (_:Unit)=>(sb ()).ext j123;replace hlpQ:=j123.at hlpQ;replace ht1:=j123.at ht1;replace hS:=j123.2 K a _ hS;clear j123;have tA:aB J123 l2 (axL [(4096,0)]):=⟨_,hl2,Al.cons' ⟨t1,rfl,ht1⟩ Al.nil⟩;clear ht1 hl2 hcb;ac_rfl;intro tv dx124 G124 hx124 hd124 hq124 g124 k124 kk124;rw [bU];refine⟨dx124,[(4096,0)],k124,aB.ext tA g124,Bh (p:=0) ⟨by omega,by omega⟩ ⟨by decide,by omega⟩ ⟨by decide,by decide⟩,λ J124 D124 gg124 hD124 hx124' tt124=>?_⟩;have j124:=gg124 J123 g124 hx124;have vtv:aA t.a_View J124 tv room 1 ([(4096,0)].map aU):=⟨dx124,D124,hx124',tt124⟩;exists vtv;clear k124 kk124 hx124 hd124 hq124 g124 gg124 hD124 hx124' tt124;replace tb:=λ (_:Unit)=>(tb ()).ext j124;replace tc:=λ (_:Unit)=>(tc ()).ext j124;replace dsL:=λ (_:Unit)=>(dsL ()).ext j124;replace sb:=λ (_:Unit)=>(sb ()).ext j124;replace hlpQ:=j124.at hlpQ;replace hS:=j124.2 K a _ hS;clear j124;clear tA;ac_rfl;intro tall dx125 G125 hx125 hd125 hq125 g125 k125 kk125;rw [cA];refine⟨dx125,k125,λ J125 gg125 htall=>?_⟩;have j125:=gg125 J124 g125 hx125;clear k125 kk125 hx125 hd125 hq125 g125 gg125;replace tb:=λ (_:Unit)=>(tb ()).ext j125;replace tc:=λ (_:Unit)=>(tc ()).ext j125;replace dsL:=λ (_:Unit)=>(dsL ()).ext j125;replace sb:=λ (_:Unit)=>(sb ()).ext j125;replace vtv:=λ (_:Unit)=>(vtv ()).ext j125;replace hlpQ:=j125.at hlpQ;replace hS:=j125.2 K a _ hS;clear j125;have sT:StY t J125 room (1,0,ai 1 [(4096,0)],[]) (.ref tall):=⟨tall,rfl,iU htall (l9 Gv ⋯ (vtv ()))⟩;exists sT;clear htall;clear vtv;ac_rfl;intro l3 J126 ul3 j126 hl3;clear ul3;replace tb:=λ (_:Unit)=>(tb ()).ext j126;replace tc:=λ (_:Unit)=>(tc ()).ext j126;replace dsL:=λ (_:Unit)=>(dsL ()).ext j126;replace sb:=λ (_:Unit)=>(sb ()).ext j126;replace sT:=λ (_:Unit)=>(sT ()).ext j126;replace hlpQ:=j126.at hlpQ;replace hS:=j126.2 K a _ hS;clear j126;have tA:aB J126 l3 (axL []):=⟨_,hl3,Al.nil⟩;clear hl3;ac_rfl;intro pv dx127 G127 hx127 hd127 hq127 g127 k127 kk127;rw [bU];refine⟨dx127,[],k127,aB.ext tA g127,ve ⟨by omega,by omega⟩,λ J127 D127 gg127 hD127 hx127' tt127=>?_⟩;have j127:=gg127 J126 g127 hx127;have vpv:aA t.a_View J127 pv room 0 ([].map aU):=⟨dx127,D127,hx127',tt127⟩;exists vpv;clear k127 kk127 hx127 hd127 hq127 g127 gg127 hD127 hx127' tt127;replace tb:=λ (_:Unit)=>(tb ()).ext j127;replace tc:=λ (_:Unit)=>(tc ()).ext j127;replace dsL:=λ (_:Unit)=>(dsL ()).ext j127;replace sb:=λ (_:Unit)=>(sb ()).ext j127;replace sT:=λ (_:Unit)=>(sT ()).ext j127;replace hlpQ:=j127.at hlpQ;replace hS:=j127.2 K a _ hS;clear j127;clear tA;ac_rfl;intro pf dx128 G128 hx128 hd128 hq128 g128 k128 kk128;rw [cA];refine⟨dx128,k128,λ J128 gg128 hpf=>?_⟩;have j128:=gg128 J127 g128 hx128;clear k128 kk128 hx128 hd128 hq128 g128 gg128;replace tb:=λ (_:Unit)=>(tb ()).ext j128;replace tc:=λ (_:Unit)=>(tc ()).ext j128;replace dsL:=λ (_:Unit)=>(dsL ()).ext j128;replace sb:=λ (_:Unit)=>(sb ()).ext j128;replace sT:=λ (_:Unit)=>(sT ()).ext j128;replace vpv:=λ (_:Unit)=>(vpv ()).ext j128;replace hlpQ:=j128.at hlpQ;replace hS:=j128.2 K a _ hS;clear j128;have sO:StY t J128 room (1,0,ai 0 [],[]) (.ref pf):=⟨pf,rfl,iU hpf (l9 BB ⋯ (vpv ()))⟩;exists sO;clear hpf;clear vpv;ac_rfl;intro b9 J129 ub9 j129 hb9;clear ub9;replace tb:=λ (_:Unit)=>(tb ()).ext j129;replace tc:=λ (_:Unit)=>(tc ()).ext j129;replace dsL:=λ (_:Unit)=>(dsL ()).ext j129;replace sb:=λ (_:Unit)=>(sb ()).ext j129;replace sT:=λ (_:Unit)=>(sT ()).ext j129;replace sO:=λ (_:Unit)=>(sO ()).ext j129;replace hlpQ:=j129.at hlpQ;replace hS:=j129.2 K a _ hS;clear j129;have stL:StL t J129 room b9 [(1,0,ai 1 [(4096,0)],[]),(1,0,ai 0 [],[]),(1,0,ai 1 [(4096,0)],[])]:=⟨_,hb9,Al.cons' (sT ()) (Al.cons' (sO ()) (Al.cons' (sT ()) Al.nil))⟩;clear hb9;clear sO;have hTT:ClD (1,0,ai 1 [(4096,0)],[]) (1,0,ai 1 [(4096,0)],[]):=ma.mpr ⟨1,(iT 1).mpr rfl,(iT 1).mpr rfl⟩;have hTO:¬ ClD (1,0,ai 1 [(4096,0)],[]) (1,0,ai 0 [],[]):=λ h=>by obtain⟨c,h1,h2⟩:=ma.mp h;have h3:=(iT c).mp h1;have h4:c=0:=Mh.mp h2;omega
  have hOT:¬ ClD (1,0,ai 0 [],[]) (1,0,ai 1 [(4096,0)],[]):=λ h=>by obtain⟨c,h1,h2⟩:=ma.mp h;have h3:=(iT c).mp h2;have h4:c=0:=Mh.mp h1;omega
  exists hTT;exists hTO;exists hOT;ac_rfl;rw [cQ];refine⟨room,[(1,0,ai 1 [(4096,0)],[]),(1,0,ai 0 [],[]),(1,0,ai 1 [(4096,0)],[])],stL,by simp,tb (),λ rc J130 hR=>?_⟩;have j130:=hR.ex;have wrc:RwL J130 rc [[0,1],[2]]:=lS (L:=[0,0,1]) hR rfl (zj (hTT ()) (hTO ()) (hOT ())) sC sy;clear hR;exists wrc;replace tb:=λ (_:Unit)=>(tb ()).ext j130;replace tc:=λ (_:Unit)=>(tc ()).ext j130;replace dsL:=λ (_:Unit)=>(dsL ()).ext j130;replace sb:=λ (_:Unit)=>(sb ()).ext j130;replace sT:=λ (_:Unit)=>(sT ()).ext j130;replace hlpQ:=j130.at hlpQ;replace hS:=j130.2 K a _ hS;clear j130;clear stL hTO hOT;ac_rfl;intro ka J131 uka j131 hka;clear uka;replace tb:=λ (_:Unit)=>(tb ()).ext j131;replace tc:=λ (_:Unit)=>(tc ()).ext j131;replace dsL:=λ (_:Unit)=>(dsL ()).ext j131;replace sb:=λ (_:Unit)=>(sb ()).ext j131;replace sT:=λ (_:Unit)=>(sT ()).ext j131;replace wrc:=λ (_:Unit)=>(wrc ()).ext j131;replace hlpQ:=j131.at hlpQ;replace hS:=j131.2 K a _ hS;clear j131;ac_rfl;intro kb J132 ukb j132 hkb;clear ukb;replace tb:=λ (_:Unit)=>(tb ()).ext j132;replace tc:=λ (_:Unit)=>(tc ()).ext j132;replace dsL:=λ (_:Unit)=>(dsL ()).ext j132;replace sb:=λ (_:Unit)=>(sb ()).ext j132;replace sT:=λ (_:Unit)=>(sT ()).ext j132;replace wrc:=λ (_:Unit)=>(wrc ()).ext j132;replace hlpQ:=j132.at hlpQ;replace hka:=j132.at hka;replace hS:=j132.2 K a _ hS;clear j132;ac_rfl;intro kl J133 ukl j133 hkl;have nklka:ka ≠ kl:=ah hka ukl;have nklkb:kb ≠ kl:=ah hkb ukl;clear ukl;replace tb:=λ (_:Unit)=>(tb ()).ext j133;replace tc:=λ (_:Unit)=>(tc ()).ext j133;replace dsL:=λ (_:Unit)=>(dsL ()).ext j133;replace sb:=λ (_:Unit)=>(sb ()).ext j133;replace sT:=λ (_:Unit)=>(sT ()).ext j133;replace wrc:=λ (_:Unit)=>(wrc ()).ext j133;replace hlpQ:=j133.at hlpQ;replace hka:=j133.at hka;replace hkb:=j133.at hkb;replace hS:=j133.2 K a _ hS;clear j133;simp! only [-bS,-bJ];refine jc (wrc ()) (⟨_,hkl,Al.cons' ⟨ka,rfl,nklka,hka⟩ (Al.cons' ⟨kb,rfl,nklkb,hkb⟩ Al.nil)⟩:RwL J133 kl [[0,1],[2]]) ?_;clear wrc;clear hka hkb hkl nklka nklkb;ac_rfl;intro b10 J134 ub10 j134 hb10;clear ub10;replace tb:=λ (_:Unit)=>(tb ()).ext j134;replace tc:=λ (_:Unit)=>(tc ()).ext j134;replace dsL:=λ (_:Unit)=>(dsL ()).ext j134;replace sb:=λ (_:Unit)=>(sb ()).ext j134;replace sT:=λ (_:Unit)=>(sT ()).ext j134;replace hlpQ:=j134.at hlpQ;replace hS:=j134.2 K a _ hS;clear j134;have stL:StL t J134 room b10 [(1,0,ai 1 [(4096,0)],[]),(1,0,ai 1 [(4096,0)],[])]:=⟨_,hb10,Al.cons' (sT ()) (Al.cons' (sT ()) Al.nil)⟩;clear hb10;clear sT;ac_rfl;rw [fh];refine⟨room,[(1,0,ai 1 [(4096,0)],[]),(1,0,ai 1 [(4096,0)],[])],stL,by simp,tb (),tc (),λ cc J135 cs fs j135 hcc hf dl hm hch=>?_⟩;obtain⟨hq1,hq2⟩:=nP (L:=[0,1]) hf dl hm hch rfl (A6 (hTT ()));have hcs:=wq hq1 hq2;rw [hcs] at hcc;clear hcs hq1 hq2 stL hTT;clear hf dl hm hch;replace tb:=λ (_:Unit)=>(tb ()).ext j135;replace tc:=λ (_:Unit)=>(tc ()).ext j135;replace dsL:=λ (_:Unit)=>(dsL ()).ext j135;replace sb:=λ (_:Unit)=>(sb ()).ext j135;replace hlpQ:=j135.at hlpQ;replace hS:=j135.2 K a _ hS;clear j135;ac_rfl;intro n5 J136 un5 j136 hn5;clear un5;replace tb:=λ (_:Unit)=>(tb ()).ext j136;replace tc:=λ (_:Unit)=>(tc ()).ext j136;replace dsL:=λ (_:Unit)=>(dsL ()).ext j136;replace sb:=λ (_:Unit)=>(sb ()).ext j136;replace hlpQ:=j136.at hlpQ;replace hcc:=j136.at hcc;replace hS:=j136.2 K a _ hS;clear j136;simp! only [-bS,-bJ];refine vm hcc (show J136 n5=some (.lst (cz [0,1])) from hn5) ?_;clear hcc hn5;ac_rfl;intro ta J137 uta j137 hta;clear uta;replace tb:=λ (_:Unit)=>(tb ()).ext j137;replace tc:=λ (_:Unit)=>(tc ()).ext j137;replace dsL:=λ (_:Unit)=>(dsL ()).ext j137;replace sb:=λ (_:Unit)=>(sb ()).ext j137;replace hlpQ:=j137.at hlpQ;replace hS:=j137.2 K a _ hS;clear j137;ac_rfl;intro tb2 J138 utb2 j138 htb2;clear utb2;replace tb:=λ (_:Unit)=>(tb ()).ext j138;replace tc:=λ (_:Unit)=>(tc ()).ext j138;replace dsL:=λ (_:Unit)=>(dsL ()).ext j138;replace sb:=λ (_:Unit)=>(sb ()).ext j138;replace hlpQ:=j138.at hlpQ;replace hta:=j138.at hta;replace hS:=j138.2 K a _ hS;clear j138;ac_rfl;intro tc2 J139 utc2 j139 htc2;clear utc2;replace tb:=λ (_:Unit)=>(tb ()).ext j139;replace tc:=λ (_:Unit)=>(tc ()).ext j139;replace dsL:=λ (_:Unit)=>(dsL ()).ext j139;replace sb:=λ (_:Unit)=>(sb ()).ext j139;replace hlpQ:=j139.at hlpQ;replace hta:=j139.at hta;replace htb2:=j139.at htb2;replace hS:=j139.2 K a _ hS;clear j139;ac_rfl;intro l4 J140 ul4 j140 hl4;clear ul4;replace tb:=λ (_:Unit)=>(tb ()).ext j140;replace tc:=λ (_:Unit)=>(tc ()).ext j140;replace dsL:=λ (_:Unit)=>(dsL ()).ext j140;replace sb:=λ (_:Unit)=>(sb ()).ext j140;replace hlpQ:=j140.at hlpQ;replace hta:=j140.at hta;replace htb2:=j140.at htb2;replace htc2:=j140.at htc2;replace hS:=j140.2 K a _ hS;clear j140;have tA:aB J140 l4 (axL [(16,61),(16,67),(16,71)]):=⟨_,hl4,Al.cons' ⟨ta,rfl,hta⟩ (Al.cons' ⟨tb2,rfl,htb2⟩ (Al.cons' ⟨tc2,rfl,htc2⟩ Al.nil))⟩;clear hta htb2 htc2 hl4;ac_rfl;intro wv dx141 G141 hx141 hd141 hq141 g141 k141 kk141;rw [bU];refine⟨dx141,[(16,61),(16,67),(16,71)],k141,aB.ext tA g141,Cf,λ J141 D141 gg141 hD141 hx141' tt141=>?_⟩;have j141:=gg141 J140 g141 hx141;have vwv:aA t.a_View J141 wv 2986 0 ([(16,61),(16,67),(16,71)].map aU):=⟨dx141,D141,hx141',tt141⟩;exists vwv;clear k141 kk141 hx141 hd141 hq141 g141 gg141 hD141 hx141' tt141;replace tb:=λ (_:Unit)=>(tb ()).ext j141;replace tc:=λ (_:Unit)=>(tc ()).ext j141;replace dsL:=λ (_:Unit)=>(dsL ()).ext j141;replace sb:=λ (_:Unit)=>(sb ()).ext j141;replace hlpQ:=j141.at hlpQ;replace hS:=j141.2 K a _ hS;clear j141;clear tA;ac_rfl;rw [bR];refine⟨hS,hl,⟨by decide,by decide⟩,by decide,λ x x0 x1=>?_⟩;ac_rfl;rw [bR];refine⟨hS,hl,⟨by decide,by decide⟩,by decide,λ y y0 y1=>?_⟩;ac_rfl;rw [bR];refine⟨hS,hl,⟨by decide,by decide⟩,by decide,λ z z0 z1=>?_⟩;obtain⟨av,hav⟩:∃ av,61 * x+67 * y+71 * z=av:=⟨_,rfl⟩;have hav0:0<=av/\av < 2986:=⟨by omega,by omega⟩;have havm:av∈ai 0 [(16,61),(16,67),(16,71)]:=by rw [←hav];exact yZ ⟨x0,x1⟩ ⟨y0,y1⟩ ⟨z0,z1⟩
  exists havm;ac_rfl;clear hav x0 x1 y0 y1 z0 z1;intro wf dx142 G142 hx142 hd142 hq142 g142 k142 kk142;rw [cA];refine⟨dx142,k142,λ J142 gg142 hwf=>?_⟩;have j142:=gg142 J141 g142 hx142;clear k142 kk142 hx142 hd142 hq142 g142 gg142;replace tb:=λ (_:Unit)=>(tb ()).ext j142;replace tc:=λ (_:Unit)=>(tc ()).ext j142;replace dsL:=λ (_:Unit)=>(dsL ()).ext j142;replace sb:=λ (_:Unit)=>(sb ()).ext j142;replace vwv:=λ (_:Unit)=>(vwv ()).ext j142;replace hlpQ:=j142.at hlpQ;replace hS:=j142.2 K a _ hS;clear j142;have sW:StY t J142 2986 (1,0,ai 0 [(16,61),(16,67),(16,71)],[]) (.ref wf):=⟨wf,rfl,iU hwf (l9 vk ⋯ (vwv ()))⟩;exists sW;clear hwf;clear vwv;ac_rfl;intro l5 J143 ul5 j143 hl5;clear ul5;replace tb:=λ (_:Unit)=>(tb ()).ext j143;replace tc:=λ (_:Unit)=>(tc ()).ext j143;replace dsL:=λ (_:Unit)=>(dsL ()).ext j143;replace sb:=λ (_:Unit)=>(sb ()).ext j143;replace sW:=λ (_:Unit)=>(sW ()).ext j143;replace hlpQ:=j143.at hlpQ;replace hS:=j143.2 K a _ hS;clear j143;have tA:aB J143 l5 (axL []):=⟨_,hl5,Al.nil⟩;clear hl5;ac_rfl;intro av2 dx144 G144 hx144 hd144 hq144 g144 k144 kk144;rw [bU];refine⟨dx144,[],k144,aB.ext tA g144,EC ⟨by decide,by decide⟩ hav0,λ J144 D144 gg144 hD144 hx144' tt144=>?_⟩;have j144:=gg144 J143 g144 hx144;have vav2:aA t.a_View J144 av2 2986 av ([].map aU):=⟨dx144,D144,hx144',tt144⟩;exists vav2;clear k144 kk144 hx144 hd144 hq144 g144 gg144 hD144 hx144' tt144;replace tb:=λ (_:Unit)=>(tb ()).ext j144;replace tc:=λ (_:Unit)=>(tc ()).ext j144;replace dsL:=λ (_:Unit)=>(dsL ()).ext j144;replace sb:=λ (_:Unit)=>(sb ()).ext j144;replace sW:=λ (_:Unit)=>(sW ()).ext j144;replace hlpQ:=j144.at hlpQ;replace hS:=j144.2 K a _ hS;clear j144;clear tA;ac_rfl;intro af dx145 G145 hx145 hd145 hq145 g145 k145 kk145;rw [cA];refine⟨dx145,k145,λ J145 gg145 haf=>?_⟩;have j145:=gg145 J144 g145 hx145;clear k145 kk145 hx145 hd145 hq145 g145 gg145;replace tb:=λ (_:Unit)=>(tb ()).ext j145;replace tc:=λ (_:Unit)=>(tc ()).ext j145;replace dsL:=λ (_:Unit)=>(dsL ()).ext j145;replace sb:=λ (_:Unit)=>(sb ()).ext j145;replace sW:=λ (_:Unit)=>(sW ()).ext j145;replace vav2:=λ (_:Unit)=>(vav2 ()).ext j145;replace hlpQ:=j145.at hlpQ;replace hS:=j145.2 K a _ hS;clear j145;have sA:StY t J145 2986 (1,0,ai av [],[]) (.ref af):=⟨af,rfl,iU haf (l9 BB ⋯ (vav2 ()))⟩;exists sA;clear haf;clear vav2;ac_rfl;intro b11 J146 ub11 j146 hb11;clear ub11;replace tb:=λ (_:Unit)=>(tb ()).ext j146;replace tc:=λ (_:Unit)=>(tc ()).ext j146;replace dsL:=λ (_:Unit)=>(dsL ()).ext j146;replace sb:=λ (_:Unit)=>(sb ()).ext j146;replace sW:=λ (_:Unit)=>(sW ()).ext j146;replace sA:=λ (_:Unit)=>(sA ()).ext j146;replace hlpQ:=j146.at hlpQ;replace hS:=j146.2 K a _ hS;clear j146;have stL:StL t J146 2986 b11 [(1,0,ai 0 [(16,61),(16,67),(16,71)],[]),(1,0,ai av [],[])]:=⟨_,hb11,Al.cons' (sW ()) (Al.cons' (sA ()) Al.nil)⟩;clear hb11;clear sW sA;ac_rfl;rw [cQ];refine⟨2986,[(1,0,ai 0 [(16,61),(16,67),(16,71)],[]),(1,0,ai av [],[])],stL,by simp,tb (),λ rd J147 hR=>?_⟩;have j147:=hR.ex;have wrd:RwL J147 rd [[0],[1]]:=lS (L:=[0,1]) hR rfl (A6 (ma.mpr ⟨av,havm (),Mh.mpr rfl⟩)) qX zh;clear hR;exists wrd;replace tb:=λ (_:Unit)=>(tb ()).ext j147;replace tc:=λ (_:Unit)=>(tc ()).ext j147;replace dsL:=λ (_:Unit)=>(dsL ()).ext j147;replace sb:=λ (_:Unit)=>(sb ()).ext j147;replace hlpQ:=j147.at hlpQ;replace hS:=j147.2 K a _ hS;clear j147;clear stL;ac_rfl;intro kc J148 ukc j148 hkc;clear ukc;replace tb:=λ (_:Unit)=>(tb ()).ext j148;replace tc:=λ (_:Unit)=>(tc ()).ext j148;replace dsL:=λ (_:Unit)=>(dsL ()).ext j148;replace sb:=λ (_:Unit)=>(sb ()).ext j148;replace wrd:=λ (_:Unit)=>(wrd ()).ext j148;replace hlpQ:=j148.at hlpQ;replace hS:=j148.2 K a _ hS;clear j148;ac_rfl;intro kd J149 ukd j149 hkd;clear ukd;replace tb:=λ (_:Unit)=>(tb ()).ext j149;replace tc:=λ (_:Unit)=>(tc ()).ext j149;replace dsL:=λ (_:Unit)=>(dsL ()).ext j149;replace sb:=λ (_:Unit)=>(sb ()).ext j149;replace wrd:=λ (_:Unit)=>(wrd ()).ext j149;replace hlpQ:=j149.at hlpQ;replace hkc:=j149.at hkc;replace hS:=j149.2 K a _ hS;clear j149;ac_rfl;intro km J150 ukm j150 hkm;have nkmkc:kc ≠ km:=ah hkc ukm;have nkmkd:kd ≠ km:=ah hkd ukm;clear ukm;replace tb:=λ (_:Unit)=>(tb ()).ext j150;replace tc:=λ (_:Unit)=>(tc ()).ext j150;replace dsL:=λ (_:Unit)=>(dsL ()).ext j150;replace sb:=λ (_:Unit)=>(sb ()).ext j150;replace wrd:=λ (_:Unit)=>(wrd ()).ext j150;replace hlpQ:=j150.at hlpQ;replace hkc:=j150.at hkc;replace hkd:=j150.at hkd;replace hS:=j150.2 K a _ hS;clear j150;simp! only [-bS,-bJ];refine jc (wrd ()) (⟨_,hkm,Al.cons' ⟨kc,rfl,nkmkc,hkc⟩ (Al.cons' ⟨kd,rfl,nkmkd,hkd⟩ Al.nil)⟩:RwL J150 km [[0],[1]]) ?_;clear wrd;clear hkc hkd hkm nkmkc nkmkd;ac_rfl;rw [cQ];refine⟨room,dS,sb (),by omega,tb (),λ re J151 hR=>?_⟩;obtain⟨M2,hmn2,hrw2⟩:=pX hR hLl (hLv ());have j151:=hR.ex;have hMM2:=ff hmn2 (hmn ());subst hMM2;exists hrw2;clear hR hmn2;replace tb:=λ (_:Unit)=>(tb ()).ext j151;replace tc:=λ (_:Unit)=>(tc ()).ext j151;replace dsL:=λ (_:Unit)=>(dsL ()).ext j151;replace sb:=λ (_:Unit)=>(sb ()).ext j151;replace hlpQ:=j151.at hlpQ;replace hS:=j151.2 K a _ hS;clear j151;ac_rfl;rw [vY];refine⟨L,hlpQ,by omega,(hLv ()).lt,λ du2 J152 M3 j152 _ hmn3 hrw3=>?_⟩;have hMM3:=ff hmn3 (hmn ());subst hMM3;exists hrw3;clear hmn3;replace tb:=λ (_:Unit)=>(tb ()).ext j152;replace tc:=λ (_:Unit)=>(tc ()).ext j152;replace dsL:=λ (_:Unit)=>(dsL ()).ext j152;replace sb:=λ (_:Unit)=>(sb ()).ext j152;replace hrw2:=λ (_:Unit)=>(hrw2 ()).ext j152;replace hlpQ:=j152.at hlpQ;replace hS:=j152.2 K a _ hS;clear j152;ac_rfl;rw [oB];refine⟨_,hrw2 (),hrw3 (),hrlen (),hclen (),λ J153 j153=>?_⟩;clear hrw2;clear hrw3;replace tb:=λ (_:Unit)=>(tb ()).ext j153;replace tc:=λ (_:Unit)=>(tc ()).ext j153;replace dsL:=λ (_:Unit)=>(dsL ()).ext j153;replace sb:=λ (_:Unit)=>(sb ()).ext j153;replace hlpQ:=j153.at hlpQ;replace hS:=j153.2 K a _ hS;clear j153;ac_rfl;rw [fh];refine⟨room,dS,sb (),by omega,tb (),tc (),λ ce J154 cs2 fs2 j154 hce hf dl hm hch=>?_⟩;obtain⟨hcm,hcn⟩:=nP hf dl hm hch hLl (hLv ());exists hcm;exists hcn;clear hf dl hm hch;replace tb:=λ (_:Unit)=>(tb ()).ext j154;replace tc:=λ (_:Unit)=>(tc ()).ext j154;replace dsL:=λ (_:Unit)=>(dsL ()).ext j154;replace sb:=λ (_:Unit)=>(sb ()).ext j154;replace hlpQ:=j154.at hlpQ;replace hS:=j154.2 K a _ hS;clear j154;ac_rfl;rw [jO];refine⟨room,dS,L,cs2,hce,dsL (),hlpQ,hLl,by omega,(hLv ()).lt,hcm (),hcn (),λ HZ eZ=>?_⟩;have kz:=kk () HZ;clear kk hce hcm hcn hlpQ hrlen hclen;ac_rfl
end
theorem Ly{l:W.OpenLaw}{w:World}{K:W.Frag}{h:Heap}{mg:Str->Option Value}{fa:Addr}(X:K.In h)(G:h.Ns mainGlobals mg)(hfa:mg "law"=some (.ref fa))
  {C0:Addr} (y0:W.nsIn K mainGlobals "PaceError"=some (some (.ref C0)))
  {C1:Addr} (y1:W.nsIn K mainGlobals "NoPlace"=some (some (.ref C1)))
  {C2:Addr} (y2:W.nsIn K mainGlobals "NoView"=some (some (.ref C2)))
  {C3:Addr} (y3:W.nsIn K mainGlobals "NoCount"=some (some (.ref C3)))
  {C4:Addr} (y4:W.nsIn K mainGlobals "NoPair"=some (some (.ref C4)))
  {C5:Addr} (y5:W.nsIn K mainGlobals "TooMany"=some (some (.ref C5)))
  {C6:Addr} (y6:W.nsIn K mainGlobals "View"=some (some (.ref C6)))
  {C7:Addr} (y7:W.nsIn K mainGlobals "Statement"=some (some (.ref C7)))
  {C8:Addr} (y8:W.nsIn K mainGlobals "Fill"=some (some (.ref C8)))
  {C9:Addr} (y9:W.nsIn K mainGlobals "Copy"=some (some (.ref C9)))
  {C10:Addr} (y10:W.nsIn K mainGlobals "Swap"=some (some (.ref C10)))
  {C11:Addr} (y11:W.nsIn K mainGlobals "Raise"=some (some (.ref C11)))
  (o_NoPair:W.excIn K C4 [.type "ValueError",.type "Exception",.type "BaseException",.type "object"] "ValueError.__new__"=true)
  (x_NoPair_PaceError:W.exmOne K (.ref C4) (.ref C0)=some true)
  (x_TooMany_PaceError:W.exmOne K (.ref C5) (.ref C0)=some true)
  (ocs:W.specialIn K (.builtin "object.__class__") "__get__"=some (some (.builtin "getset_descriptor.__get__")))
  (oct:W.takesIn K (.builtin "object.__class__")=some true)
  (ga_NoPair:W.findIn K (.ref C4) "__getattribute__"=some (some (.builtin "BaseException.__getattribute__")))
  (gn_NoPair:W.findIn K (.ref C4) "__getattr__"=some none)
  (mb_NoPair:W.mroIn K C4 (.type "BaseException")=some true)
  (mo_NoPair:W.mroIn K C4 (.type "object")=some true)
  (fc_NoPair:W.findIn K (.ref C4) "__class__"=some (some (.builtin "object.__class__")))
  (hd_NoPair:W.hasDictIn K C4=true)
  (ga_TooMany:W.findIn K (.ref C5) "__getattribute__"=some (some (.builtin "BaseException.__getattribute__")))
  (gn_TooMany:W.findIn K (.ref C5) "__getattr__"=some none)
  (mb_TooMany:W.mroIn K C5 (.type "BaseException")=some true)
  (mo_TooMany:W.mroIn K C5 (.type "object")=some true)
  (fc_TooMany:W.findIn K (.ref C5) "__class__"=some (some (.builtin "object.__class__")))
  (hd_TooMany:W.hasDictIn K C5=true)
  (kc_NoPair_NoPair:W.hasDictIn K C4=true)
  (kt_NoPair_NoPair:W.typeIn K (.ref C4)=some (.type "type"))
  (ks_NoPair_NoPair:W.subIn K (.ref C4) (.ref C4)=some true)
  (kc_NoPair_TooMany:W.hasDictIn K C5=true)
  (kt_NoPair_TooMany:W.typeIn K (.ref C5)=some (.type "type"))
  (ks_NoPair_TooMany:W.subIn K (.ref C4) (.ref C5)=some false)
  (kn_NoPair_TooMany:(C4 == C5)=false)
  (kc_TooMany_NoPair:W.hasDictIn K C4=true)
  (kt_TooMany_NoPair:W.typeIn K (.ref C4)=some (.type "type"))
  (ks_TooMany_NoPair:W.subIn K (.ref C5) (.ref C4)=some false)
  (kn_TooMany_NoPair:(C5 == C4)=false)
  (kc_TooMany_TooMany:W.hasDictIn K C5=true)
  (kt_TooMany_TooMany:W.typeIn K (.ref C5)=some (.type "type"))
  (ks_TooMany_TooMany:W.subIn K (.ref C5) (.ref C5)=some true)
  (ks_NoPair_ValueError:W.subIn K (.ref C4) (.type "ValueError")=some true)
  (ks_TooMany_ValueError:W.subIn K (.ref C5) (.type "ValueError")=some true)
  {f0:Addr} {d0:FuncData} (F0:Fun K "__init__" "TooMany.__init__" bY f0 d0)
  {f1:Addr} {d1:FuncData} (a1:W.nsIn K mainGlobals "is_whole"=some (some (.ref f1))) (F1:Fun K "is_whole" "is_whole" il f1 d1)
  {f2:Addr} {d2:FuncData} (a2:W.nsIn K mainGlobals "count_of"=some (some (.ref f2))) (F2:Fun K "count_of" "count_of" ip f2 d2)
  {f3:Addr} {d3:FuncData} (a3:W.nsIn K mainGlobals "is_number_below"=some (some (.ref f3))) (F3:Fun K "is_number_below" "is_number_below" ei f3 d3)
  {f4:Addr} {d4:FuncData} (a4:W.nsIn K mainGlobals "is_place"=some (some (.ref f4))) (F4:Fun K "is_place" "is_place" kY f4 d4)
  {f5:Addr} {d5:FuncData} (a5:W.nsIn K mainGlobals "refuse_long"=some (some (.ref f5))) (F5:Fun K "refuse_long" "refuse_long" eK f5 d5)
  {f6:Addr} {d6:FuncData} (a6:W.nsIn K mainGlobals "is_within"=some (some (.ref f6))) (F6:Fun K "is_within" "is_within" gs f6 d6)
  {f7:Addr} {d7:FuncData} (a7:W.nsIn K mainGlobals "is_size"=some (some (.ref f7))) (F7:Fun K "is_size" "is_size" js f7 d7)
  {f8:Addr} {d8:FuncData} (a8:W.nsIn K mainGlobals "is_axis"=some (some (.ref f8))) (F8:Fun K "is_axis" "is_axis" jt f8 d8)
  {f9:Addr} {d9:FuncData} (a9:W.nsIn K mainGlobals "are_axes"=some (some (.ref f9))) (F9:Fun K "are_axes" "are_axes" fL f9 d9)
  {f10:Addr} {d10:FuncData} (a10:W.nsIn K mainGlobals "kept_axis"=some (some (.ref f10))) (F10:Fun K "kept_axis" "kept_axis" gr f10 d10)
  {f11:Addr} {d11:FuncData} (F11:Fun K "__init__" "View.__init__" bX f11 d11)
  {f12:Addr} {d12:FuncData} (F12:Fun K "sizes" "View.sizes" dq f12 d12)
  {f13:Addr} {d13:FuncData} (F13:Fun K "paces" "View.paces" iD f13 d13)
  {f14:Addr} {d14:FuncData} (F14:Fun K "count" "View.count" fm f14 d14)
  {f15:Addr} {d15:FuncData} (F15:Fun K "cell" "View.cell" jC f15 d15)
  {f16:Addr} {d16:FuncData} (F16:Fun K "cells" "View.cells" fq f16 d16)
  {f17:Addr} {d17:FuncData} (F17:Fun K "least" "View.least" dz f17 d17)
  {f18:Addr} {d18:FuncData} (F18:Fun K "greatest" "View.greatest" bW f18 d18)
  {f19:Addr} {d19:FuncData} (a19:W.nsIn K mainGlobals "widened"=some (some (.ref f19))) (F19:Fun K "widened" "widened" gM f19 d19)
  {f20:Addr} {d20:FuncData} (a20:W.nsIn K mainGlobals "refuse_rooms"=some (some (.ref f20))) (F20:Fun K "refuse_rooms" "refuse_rooms" dI f20 d20)
  {f21:Addr} {d21:FuncData} (a21:W.nsIn K mainGlobals "refuse_count"=some (some (.ref f21))) (F21:Fun K "refuse_count" "refuse_count" dM f21 d21)
  {f22:Addr} {d22:FuncData} (a22:W.nsIn K mainGlobals "refuse_two"=some (some (.ref f22))) (F22:Fun K "refuse_two" "refuse_two" fi f22 d22)
  {f23:Addr} {d23:FuncData} (F23:Fun K "writes" "Statement.writes" bZ f23 d23)
  {f24:Addr} {d24:FuncData} (F24:Fun K "reads" "Statement.reads" cw f24 d24)
  {f25:Addr} {d25:FuncData} (F25:Fun K "__init__" "Fill.__init__" cZ f25 d25)
  {f26:Addr} {d26:FuncData} (F26:Fun K "writes" "Fill.writes" eP f26 d26)
  {f27:Addr} {d27:FuncData} (F27:Fun K "__init__" "Copy.__init__" df f27 d27)
  {f28:Addr} {d28:FuncData} (F28:Fun K "writes" "Copy.writes" eQ f28 d28)
  {f29:Addr} {d29:FuncData} (F29:Fun K "reads" "Copy.reads" fw f29 d29)
  {f30:Addr} {d30:FuncData} (F30:Fun K "__init__" "Swap.__init__" cY f30 d30)
  {f31:Addr} {d31:FuncData} (F31:Fun K "writes" "Swap.writes" eN f31 d31)
  {f32:Addr} {d32:FuncData} (F32:Fun K "reads" "Swap.reads" ft f32 d32)
  {f33:Addr} {d33:FuncData} (F33:Fun K "__init__" "Raise.__init__" cF f33 d33)
  {f34:Addr} {d34:FuncData} (F34:Fun K "writes" "Raise.writes" dR f34 d34)
  {f35:Addr} {d35:FuncData} (F35:Fun K "reads" "Raise.reads" eO f35 d35)
  {f36:Addr} {d36:FuncData} (a36:W.nsIn K mainGlobals "views_of"=some (some (.ref f36))) (F36:Fun K "views_of" "views_of" ik f36 d36)
  {f37:Addr} {d37:FuncData} (a37:W.nsIn K mainGlobals "refuse_views"=some (some (.ref f37))) (F37:Fun K "refuse_views" "refuse_views" dH f37 d37)
  {f38:Addr} {d38:FuncData} (a38:W.nsIn K mainGlobals "cells_of"=some (some (.ref f38))) (F38:Fun K "cells_of" "cells_of" iq f38 d38)
  {f39:Addr} {d39:FuncData} (a39:W.nsIn K mainGlobals "refuse_statements"=some (some (.ref f39))) (F39:Fun K "refuse_statements" "refuse_statements" bH f39 d39)
  {f40:Addr} {od40 an40:Option Addr} {sl40:Array (Option Value)} {oc40 kV40 dc40 pm40 ct40:Value} {cT40:Addr}
  (a40:W.nsIn K mainGlobals "dealt"=some (some (.ref f40))) (l40:K.lookup f40=some ⟨oc40,od40,.func (W.fnOf "dealt" "dealt" (ez fe) (cj fe) (aa fe) .none kV40 dc40 pm40 an40 (.ref cT40) ct40),sl40⟩)
  (c40:W.codeIn K (.ref cT40) "dealt"=true) (k40:W.keepIn K (.ref f40)=true)
  (u40:i8 K cT40 476) (v40:K.lookup 476=none)
  {f41:Addr} {d41:FuncData} (a41:W.nsIn K mainGlobals "rounds"=some (some (.ref f41))) (F41:Fun K "rounds" "rounds" eA f41 d41)
  {f42:Addr} {od42 an42:Option Addr} {sl42:Array (Option Value)} {oc42 kV42 dc42 pm42 ct42:Value} {cT42:Addr}
  (a42:W.nsIn K mainGlobals "chain"=some (some (.ref f42))) (l42:K.lookup f42=some ⟨oc42,od42,.func (W.fnOf "chain" "chain" (ez hU) (cj hU) (aa hU) .none kV42 dc42 pm42 an42 (.ref cT42) ct42),sl42⟩)
  (c42:W.codeIn K (.ref cT42) "chain"=true) (k42:W.keepIn K (.ref f42)=true)
  (u42:i8 K cT42 486) (v42:K.lookup 486=none)
  {f43:Addr} {d43:FuncData} (a43:W.nsIn K mainGlobals "_law_draw"=some (some (.ref f43))) (F43:Fun K "_law_draw" "_law_draw" gw f43 d43)
  {f44:Addr} {d44:FuncData} (a44:W.nsIn K mainGlobals "_law_whole"=some (some (.ref f44))) (F44:Fun K "_law_whole" "_law_whole" fj f44 d44)
  {f45:Addr} {d45:FuncData} (a45:W.nsIn K mainGlobals "_law_cells"=some (some (.ref f45))) (F45:Fun K "_law_cells" "_law_cells" dn f45 d45)
  {f46:Addr} {d46:FuncData} (a46:W.nsIn K mainGlobals "_law_some"=some (some (.ref f46))) (F46:Fun K "_law_some" "_law_some" cX f46 d46)
  {f47:Addr} {d47:FuncData} (a47:W.nsIn K mainGlobals "_law_drawn"=some (some (.ref f47))) (F47:Fun K "_law_drawn" "_law_drawn" dk f47 d47)
  {f48:Addr} {d48:FuncData} (a48:W.nsIn K mainGlobals "_law_count"=some (some (.ref f48))) (F48:Fun K "_law_count" "_law_count" fk f48 d48)
  {f49:Addr} {d49:FuncData} (a49:W.nsIn K mainGlobals "_law_made"=some (some (.ref f49))) (F49:Fun K "_law_made" "_law_made" gv f49 d49)
  {f50:Addr} {d50:FuncData} (a50:W.nsIn K mainGlobals "_law_touched"=some (some (.ref f50))) (F50:Fun K "_law_touched" "_law_touched" dO f50 d50)
  {f51:Addr} {d51:FuncData} (a51:W.nsIn K mainGlobals "_law_clash"=some (some (.ref f51))) (F51:Fun K "_law_clash" "_law_clash" dm f51 d51)
  {f52:Addr} {d52:FuncData} (a52:W.nsIn K mainGlobals "_law_levels"=some (some (.ref f52))) (F52:Fun K "_law_levels" "_law_levels" eL f52 d52)
  {f53:Addr} {d53:FuncData} (a53:W.nsIn K mainGlobals "_law_due"=some (some (.ref f53))) (F53:Fun K "_law_due" "_law_due" fM f53 d53)
  {f54:Addr} {d54:FuncData} (a54:W.nsIn K mainGlobals "_law_right"=some (some (.ref f54))) (F54:Fun K "_law_right" "_law_right" dj f54 d54)
  {f55:Addr} {d55:FuncData} (a55:W.nsIn K mainGlobals "_law_chained"=some (some (.ref f55))) (F55:Fun K "_law_chained" "_law_chained" dQ f55 d55)
  {f56:Addr} {d56:FuncData} (a56:W.nsIn K mainGlobals "_law_told"=some (some (.ref f56))) (F56:Fun K "_law_told" "_law_told" gu f56 d56)
  {f57:Addr} {d57:FuncData} (a57:W.nsIn K mainGlobals "_law_refused"=some (some (.ref f57))) (F57:Fun K "_law_refused" "_law_refused" dP f57 d57)
  {f58:Addr} {od58 an58:Option Addr} {sl58:Array (Option Value)} {oc58 kV58 dc58 pm58 cd58 ct58:Value}
  (a58:W.nsIn K mainGlobals "law"=some (some (.ref f58))) (l58:K.lookup f58=some ⟨oc58,od58,.func (W.fnOf "law" "law" (ez i6) (cj i6) (aa i6) .none kV58 dc58 pm58 an58 cd58 ct58),sl58⟩)
  (c58:W.codeIn K cd58 "law"=true) (k58:W.keepIn K (.ref f58)=true)
  (fi_TooMany:W.findIn K (.ref C5) "__init__"=some (some (.ref f0)))
  (xe_TooMany:By K C5 f0 [.type "ValueError",.type "Exception",.type "BaseException",.type "object"] "ValueError.__new__"=true)
  (xf_TooMany:W.typeIn K (.ref f0)=some (.type "function"))
  (xo_TooMany:p8 K C5=true)
  (xs_TooMany:W.findIn K (.ref C5) "__setattr__"=some (some (.builtin "object.__setattr__")))
  (xh_TooMany:W.hasDictIn K C5=true)
  (nt_TooMany_number:W.takerIn K C5 "number"=some none)
  (nf_TooMany_number:W.findIn K (.ref C5) "number"=some none)
  (bs_PaceError:W.specialIn K (.ref C0) "__getattribute__"=some (some (.builtin "type.__getattribute__")))
  (br_PaceError:W.readsIn K C0 (.type "type")=true)
  (bf_PaceError:W.findCls K (.ref C0) (.type "type") "__init__"=some (.val (.builtin "ValueError.__init__")))
  (pg_View:W.plainGet K C6 Str.empty=true)
  (hd_View:W.hasDictIn K C6=true)
  (po_View:W.plainOver K C6=true)
  (sa_View:W.findIn K (.ref C6) "__setattr__"=some (some (.builtin "object.__setattr__")))
  (nf_View_axes:W.findIn K (.ref C6) "axes"=some none)
  (nf_View_first:W.findIn K (.ref C6) "first"=some none)
  (nf_View_room:W.findIn K (.ref C6) "room"=some none)
  (fi_View___init__:W.findIn K (.ref C6) "__init__"=some (some (.ref f11)))
  (fn_View___init__:W.isFn K (.ref f11)=true)
  (mm_View:W.makesIn K C6=true)
  (ck_View:W.keepIn K (.ref C6)=true)
  (fi_View_sizes:W.findIn K (.ref C6) "sizes"=some (some (.ref f12)))
  (fn_View_sizes:W.isFn K (.ref f12)=true)
  (fi_View_paces:W.findIn K (.ref C6) "paces"=some (some (.ref f13)))
  (fn_View_paces:W.isFn K (.ref f13)=true)
  (fi_View_count:W.findIn K (.ref C6) "count"=some (some (.ref f14)))
  (fn_View_count:W.isFn K (.ref f14)=true)
  (fi_View_cell:W.findIn K (.ref C6) "cell"=some (some (.ref f15)))
  (fn_View_cell:W.isFn K (.ref f15)=true)
  (fi_View_cells:W.findIn K (.ref C6) "cells"=some (some (.ref f16)))
  (fn_View_cells:W.isFn K (.ref f16)=true)
  (fi_View_least:W.findIn K (.ref C6) "least"=some (some (.ref f17)))
  (fn_View_least:W.isFn K (.ref f17)=true)
  (fi_View_greatest:W.findIn K (.ref C6) "greatest"=some (some (.ref f18)))
  (fn_View_greatest:W.isFn K (.ref f18)=true)
  (pg_Statement:W.plainGet K C7 Str.empty=true)
  (hd_Statement:W.hasDictIn K C7=true)
  (po_Statement:W.plainOver K C7=true)
  (sa_Statement:W.findIn K (.ref C7) "__setattr__"=some (some (.builtin "object.__setattr__")))
  (mm_Statement:W.makesIn K C7=true)
  (ck_Statement:W.keepIn K (.ref C7)=true)
  (fi0_Statement:W.findIn K (.ref C7) "__init__"=some (some (.builtin "object.__init__")))
  (fi_Statement_writes:W.findIn K (.ref C7) "writes"=some (some (.ref f23)))
  (fn_Statement_writes:W.isFn K (.ref f23)=true)
  (fi_Statement_reads:W.findIn K (.ref C7) "reads"=some (some (.ref f24)))
  (fn_Statement_reads:W.isFn K (.ref f24)=true)
  (pg_Fill:W.plainGet K C8 Str.empty=true)
  (hd_Fill:W.hasDictIn K C8=true)
  (po_Fill:W.plainOver K C8=true)
  (sa_Fill:W.findIn K (.ref C8) "__setattr__"=some (some (.builtin "object.__setattr__")))
  (nf_Fill_to:W.findIn K (.ref C8) "to"=some none)
  (nf_Fill_value:W.findIn K (.ref C8) "value"=some none)
  (fi_Fill_writes:W.findIn K (.ref C8) "writes"=some (some (.ref f26)))
  (fn_Fill_writes:W.isFn K (.ref f26)=true)
  (fi_Fill_reads:W.findIn K (.ref C8) "reads"=some (some (.ref f24)))
  (fn_Fill_reads:W.isFn K (.ref f24)=true)
  (fi_Fill___init__:W.findIn K (.ref C8) "__init__"=some (some (.ref f25)))
  (fn_Fill___init__:W.isFn K (.ref f25)=true)
  (mm_Fill:W.makesIn K C8=true)
  (ck_Fill:W.keepIn K (.ref C8)=true)
  (pg_Copy:W.plainGet K C9 Str.empty=true)
  (hd_Copy:W.hasDictIn K C9=true)
  (po_Copy:W.plainOver K C9=true)
  (sa_Copy:W.findIn K (.ref C9) "__setattr__"=some (some (.builtin "object.__setattr__")))
  (nf_Copy_source:W.findIn K (.ref C9) "source"=some none)
  (nf_Copy_to:W.findIn K (.ref C9) "to"=some none)
  (fi_Copy_writes:W.findIn K (.ref C9) "writes"=some (some (.ref f28)))
  (fn_Copy_writes:W.isFn K (.ref f28)=true)
  (fi_Copy_reads:W.findIn K (.ref C9) "reads"=some (some (.ref f29)))
  (fn_Copy_reads:W.isFn K (.ref f29)=true)
  (fi_Copy___init__:W.findIn K (.ref C9) "__init__"=some (some (.ref f27)))
  (fn_Copy___init__:W.isFn K (.ref f27)=true)
  (mm_Copy:W.makesIn K C9=true)
  (ck_Copy:W.keepIn K (.ref C9)=true)
  (pg_Swap:W.plainGet K C10 Str.empty=true)
  (hd_Swap:W.hasDictIn K C10=true)
  (po_Swap:W.plainOver K C10=true)
  (sa_Swap:W.findIn K (.ref C10) "__setattr__"=some (some (.builtin "object.__setattr__")))
  (nf_Swap_one:W.findIn K (.ref C10) "one"=some none)
  (nf_Swap_other:W.findIn K (.ref C10) "other"=some none)
  (fi_Swap_writes:W.findIn K (.ref C10) "writes"=some (some (.ref f31)))
  (fn_Swap_writes:W.isFn K (.ref f31)=true)
  (fi_Swap_reads:W.findIn K (.ref C10) "reads"=some (some (.ref f32)))
  (fn_Swap_reads:W.isFn K (.ref f32)=true)
  (fi_Swap___init__:W.findIn K (.ref C10) "__init__"=some (some (.ref f30)))
  (fn_Swap___init__:W.isFn K (.ref f30)=true)
  (mm_Swap:W.makesIn K C10=true)
  (ck_Swap:W.keepIn K (.ref C10)=true)
  (pg_Raise:W.plainGet K C11 Str.empty=true)
  (hd_Raise:W.hasDictIn K C11=true)
  (po_Raise:W.plainOver K C11=true)
  (sa_Raise:W.findIn K (.ref C11) "__setattr__"=some (some (.builtin "object.__setattr__")))
  (nf_Raise_source:W.findIn K (.ref C11) "source"=some none)
  (nf_Raise_to:W.findIn K (.ref C11) "to"=some none)
  (fi_Raise_writes:W.findIn K (.ref C11) "writes"=some (some (.ref f34)))
  (fn_Raise_writes:W.isFn K (.ref f34)=true)
  (fi_Raise_reads:W.findIn K (.ref C11) "reads"=some (some (.ref f35)))
  (fn_Raise_reads:W.isFn K (.ref f35)=true)
  (fi_Raise___init__:W.findIn K (.ref C11) "__init__"=some (some (.ref f33)))
  (fn_Raise___init__:W.isFn K (.ref f33)=true)
  (mm_Raise:W.makesIn K C11=true)
  (ck_Raise:W.keepIn K (.ref C11)=true)
  {tk0:Tok} (w0:W.nsIn K mainGlobals "MOST_TOLD"=some (some (.int 4096 tk0)))
  {tk1:Tok} (w1:W.nsIn K mainGlobals "MOST_ROOM"=some (some (.int 1000000000000000000 tk1)))
  {tk2:Tok} (w2:W.nsIn K mainGlobals "MOST_SIZE"=some (some (.int 1000000000 tk2)))
  {tk3:Tok} (w3:W.nsIn K mainGlobals "MOST_AXES"=some (some (.int 8 tk3)))
  {tk4:Tok} (w4:W.nsIn K mainGlobals "MOST_STATEMENTS"=some (some (.int 60 tk4)))
  (z0:W.nsIn K mainGlobals "ValueError"=some none)
  (z1:W.nsIn K mainGlobals "all"=some none)
  (z2:W.nsIn K mainGlobals "bool"=some none)
  (z3:W.nsIn K mainGlobals "enumerate"=some none)
  (z4:W.nsIn K mainGlobals "int"=some none)
  (z5:W.nsIn K mainGlobals "isinstance"=some none)
  (z6:W.nsIn K mainGlobals "len"=some none)
  (z7:W.nsIn K mainGlobals "list"=some none)
  (z8:W.nsIn K mainGlobals "max"=some none)
  (z9:W.nsIn K mainGlobals "min"=some none)
  (z10:W.nsIn K mainGlobals "range"=some none)
  (z11:W.nsIn K mainGlobals "sum"=some none)
  (z12:W.nsIn K mainGlobals "tuple"=some none)
  (z13:W.nsIn K mainGlobals "zip"=some none)
  {bm0:Addr} (wb0:W.nsIn K mainGlobals "__builtins__"=some (some (.ref bm0))) (wb1:K.lookup bm0=none)
  : (∀ p∈tqs,K.lookup p.1=none/\∃ c,i8 K c p.1)/\(∀ bm,mg "__builtins__"=some (.ref bm)->K.lookup bm=none)/\∃ fd:FuncData,(∀ (s:Shared) (v:Value),BindsTo s fd ⟨[v],[]⟩ [("_law_script",v)])/\∀ base:Heap,K.In base->base.Ns mainGlobals mg->aW l.prog w K mg base CX0 10 fa fd ["_law_script"] (uv K mg):=by
 have e:=hfa.symm.trans (MF X G a58);cases e;have F40:=vc (st:=fe) l40 c40 k40;have F42:=vc (st:=hU) l42 c42 k42;have F58:=vc (st:=i6) l58 c58 k58;have T:Tx K mg ⟨C0,C1,C2,C3,C4,C5,C6,C7,C8,C9,C10,C11,f0,_,f1,_,f2,_,f3,_,f4,_,f5,_,f6,_,f7,_,f8,_,f9,_,f10,_,f11,_,f12,_,f13,_,f14,_,f15,_,f16,_,f17,_,f18,_,f19,_,f20,_,f21,_,f22,_,f23,_,f24,_,f25,_,f26,_,f27,_,f28,_,f29,_,f30,_,f31,_,f32,_,f33,_,f34,_,f35,_,f36,_,f37,_,f38,_,f39,_,f40,_,f41,_,f42,_,f43,_,f44,_,f45,_,f46,_,f47,_,f48,_,f49,_,f50,_,f51,_,f52,_,f53,_,f54,_,f55,_,f56,_,f57,_,fa,_⟩:=⟨MF X G y0,MF X G y1,MF X G y2,MF X G y3,MF X G y4,MF X G y5,MF X G y6,MF X G y7,MF X G y8,MF X G y9,MF X G y10,MF X G y11,o_NoPair,x_NoPair_PaceError,x_TooMany_PaceError,ocs,oct,ga_NoPair,gn_NoPair,mb_NoPair,mo_NoPair,fc_NoPair,hd_NoPair,ga_TooMany,gn_TooMany,mb_TooMany,mo_TooMany,fc_TooMany,hd_TooMany,kc_NoPair_NoPair,kt_NoPair_NoPair,ks_NoPair_NoPair,kc_NoPair_TooMany,kt_NoPair_TooMany,ks_NoPair_TooMany,kn_NoPair_TooMany,kc_TooMany_NoPair,kt_TooMany_NoPair,ks_TooMany_NoPair,kn_TooMany_NoPair,kc_TooMany_TooMany,kt_TooMany_TooMany,ks_TooMany_TooMany,ks_NoPair_ValueError,ks_TooMany_ValueError,⟨_,MF X G w0⟩,⟨_,MF X G w1⟩,⟨_,MF X G w2⟩,⟨_,MF X G w3⟩,⟨_,MF X G w4⟩,⟨xe_TooMany,xf_TooMany,⟨xo_TooMany,xs_TooMany,xh_TooMany⟩⟩,nt_TooMany_number,nf_TooMany_number,⟨bs_PaceError,br_PaceError,bf_PaceError⟩,⟨pg_View,hd_View,po_View,sa_View⟩,nf_View_axes,nf_View_first,nf_View_room,⟨mm_View,fi_View___init__,fn_View___init__,ck_View⟩,⟨fi_View_sizes,fn_View_sizes,F12.kp⟩,⟨fi_View_paces,fn_View_paces,F13.kp⟩,⟨fi_View_count,fn_View_count,F14.kp⟩,⟨fi_View_cell,fn_View_cell,F15.kp⟩,⟨fi_View_cells,fn_View_cells,F16.kp⟩,⟨fi_View_least,fn_View_least,F17.kp⟩,⟨fi_View_greatest,fn_View_greatest,F18.kp⟩,⟨pg_Statement,hd_Statement,po_Statement,sa_Statement⟩,⟨mm_Statement,fi0_Statement,ck_Statement⟩,⟨fi_Statement_writes,fn_Statement_writes,F23.kp⟩,⟨fi_Statement_reads,fn_Statement_reads,F24.kp⟩,⟨pg_Fill,hd_Fill,po_Fill,sa_Fill⟩,nf_Fill_to,nf_Fill_value,⟨fi_Fill_writes,fn_Fill_writes,F26.kp⟩,⟨fi_Fill_reads,fn_Fill_reads,F24.kp⟩,⟨mm_Fill,fi_Fill___init__,fn_Fill___init__,ck_Fill⟩,⟨pg_Copy,hd_Copy,po_Copy,sa_Copy⟩,nf_Copy_source,nf_Copy_to,⟨fi_Copy_writes,fn_Copy_writes,F28.kp⟩,⟨fi_Copy_reads,fn_Copy_reads,F29.kp⟩,⟨mm_Copy,fi_Copy___init__,fn_Copy___init__,ck_Copy⟩,⟨pg_Swap,hd_Swap,po_Swap,sa_Swap⟩,nf_Swap_one,nf_Swap_other,⟨fi_Swap_writes,fn_Swap_writes,F31.kp⟩,⟨fi_Swap_reads,fn_Swap_reads,F32.kp⟩,⟨mm_Swap,fi_Swap___init__,fn_Swap___init__,ck_Swap⟩,⟨pg_Raise,hd_Raise,po_Raise,sa_Raise⟩,nf_Raise_source,nf_Raise_to,⟨fi_Raise_writes,fn_Raise_writes,F34.kp⟩,⟨fi_Raise_reads,fn_Raise_reads,F35.kp⟩,⟨mm_Raise,fi_Raise___init__,fn_Raise___init__,ck_Raise⟩,F0,F0.binds (ps:=["self", "number"]) (λ _ _ _ _ _ _=>qH (λ _ _=>rfl)),F1,MF X G a1,F1.binds (ps:=["thing"]) (λ _ _ _ _ _ _=>eU (λ _=>rfl)),F2,MF X G a2,F2.binds (ps:=["sizes"]) (λ _ _ _ _ _ _=>eU (λ _=>rfl)),F3,MF X G a3,F3.binds (ps:=["thing", "bound"]) (λ _ _ _ _ _ _=>qH (λ _ _=>rfl)),F4,MF X G a4,F4.binds (ps:=["sizes", "thing"]) (λ _ _ _ _ _ _=>qH (λ _ _=>rfl)),F5,MF X G a5,F5.binds (ps:=["count"]) (λ _ _ _ _ _ _=>eU (λ _=>rfl)),F6,MF X G a6,F6.binds (ps:=["thing", "low", "high"]) (λ _ _ _ _ _ _=>uk (λ _ _ _=>rfl)),F7,MF X G a7,F7.binds (ps:=["thing"]) (λ _ _ _ _ _ _=>eU (λ _=>rfl)),F8,MF X G a8,F8.binds (ps:=["thing"]) (λ _ _ _ _ _ _=>eU (λ _=>rfl)),F9,MF X G a9,F9.binds (ps:=["thing"]) (λ _ _ _ _ _ _=>eU (λ _=>rfl)),F10,MF X G a10,F10.binds (ps:=["axis"]) (λ _ _ _ _ _ _=>eU (λ _=>rfl)),F11,F11.binds (ps:=["self", "room", "first", "axes"]) (λ _ _ _ _ _ _=>LP (λ _ _ _ _=>rfl)),F12,F12.binds (ps:=["self"]) (λ _ _ _ _ _ _=>eU (λ _=>rfl)),F13,F13.binds (ps:=["self"]) (λ _ _ _ _ _ _=>eU (λ _=>rfl)),F14,F14.binds (ps:=["self"]) (λ _ _ _ _ _ _=>eU (λ _=>rfl)),F15,F15.binds (ps:=["self", "place"]) (λ _ _ _ _ _ _=>qH (λ _ _=>rfl)),F16,F16.binds (ps:=["self"]) (λ _ _ _ _ _ _=>eU (λ _=>rfl)),F17,F17.binds (ps:=["self"]) (λ _ _ _ _ _ _=>eU (λ _=>rfl)),F18,F18.binds (ps:=["self"]) (λ _ _ _ _ _ _=>eU (λ _=>rfl)),F19,MF X G a19,F19.binds (ps:=["cells", "size", "pace"]) (λ _ _ _ _ _ _=>uk (λ _ _ _=>rfl)),F20,MF X G a20,F20.binds (ps:=["one", "other"]) (λ _ _ _ _ _ _=>qH (λ _ _=>rfl)),F21,MF X G a21,F21.binds (ps:=["view", "many"]) (λ _ _ _ _ _ _=>qH (λ _ _=>rfl)),F22,MF X G a22,F22.binds (ps:=["one", "other"]) (λ _ _ _ _ _ _=>qH (λ _ _=>rfl)),F23,F23.binds (ps:=["self"]) (λ _ _ _ _ _ _=>eU (λ _=>rfl)),F24,F24.binds (ps:=["self"]) (λ _ _ _ _ _ _=>eU (λ _=>rfl)),F25,F25.binds (ps:=["self", "to", "value"]) (λ _ _ _ _ _ _=>uk (λ _ _ _=>rfl)),F26,F26.binds (ps:=["self"]) (λ _ _ _ _ _ _=>eU (λ _=>rfl)),F27,F27.binds (ps:=["self", "to", "source"]) (λ _ _ _ _ _ _=>uk (λ _ _ _=>rfl)),F28,F28.binds (ps:=["self"]) (λ _ _ _ _ _ _=>eU (λ _=>rfl)),F29,F29.binds (ps:=["self"]) (λ _ _ _ _ _ _=>eU (λ _=>rfl)),F30,F30.binds (ps:=["self", "one", "other"]) (λ _ _ _ _ _ _=>uk (λ _ _ _=>rfl)),F31,F31.binds (ps:=["self"]) (λ _ _ _ _ _ _=>eU (λ _=>rfl)),F32,F32.binds (ps:=["self"]) (λ _ _ _ _ _ _=>eU (λ _=>rfl)),F33,F33.binds (ps:=["self", "to", "source"]) (λ _ _ _ _ _ _=>uk (λ _ _ _=>rfl)),F34,F34.binds (ps:=["self"]) (λ _ _ _ _ _ _=>eU (λ _=>rfl)),F35,F35.binds (ps:=["self"]) (λ _ _ _ _ _ _=>eU (λ _=>rfl)),F36,MF X G a36,F36.binds (ps:=["statement"]) (λ _ _ _ _ _ _=>eU (λ _=>rfl)),F37,MF X G a37,F37.binds (ps:=["views"]) (λ _ _ _ _ _ _=>eU (λ _=>rfl)),F38,MF X G a38,F38.binds (ps:=["views"]) (λ _ _ _ _ _ _=>eU (λ _=>rfl)),F39,MF X G a39,F39.binds (ps:=["statements"]) (λ _ _ _ _ _ _=>eU (λ _=>rfl)),F40,MF X G a40,F40.binds (ps:=["statements"]) (λ _ _ _ _ _ _=>eU (λ _=>rfl)),F41,MF X G a41,F41.binds (ps:=["statements"]) (λ _ _ _ _ _ _=>eU (λ _=>rfl)),F42,MF X G a42,F42.binds (ps:=["statements"]) (λ _ _ _ _ _ _=>eU (λ _=>rfl)),F43,MF X G a43,F43.binds (ps:=["_law_script", "_law_k", "_law_many"]) (λ _ _ _ _ _ _=>uk (λ _ _ _=>rfl)),F44,MF X G a44,F44.binds (ps:=["_law_found"]) (λ _ _ _ _ _ _=>eU (λ _=>rfl)),F45,MF X G a45,F45.binds (ps:=["_law_first", "_law_axes"]) (λ _ _ _ _ _ _=>qH (λ _ _=>rfl)),F46,MF X G a46,F46.binds (ps:=["_law_script", "_law_at", "_law_room"]) (λ _ _ _ _ _ _=>uk (λ _ _ _=>rfl)),F47,MF X G a47,F47.binds (ps:=["_law_views", "_law_cell"]) (λ _ _ _ _ _ _=>qH (λ _ _=>rfl)),F48,MF X G a48,F48.binds (ps:=["_law_view"]) (λ _ _ _ _ _ _=>eU (λ _=>rfl)),F49,MF X G a49,F49.binds (ps:=["_law_drawn_here", "_law_room"]) (λ _ _ _ _ _ _=>qH (λ _ _=>rfl)),F50,MF X G a50,F50.binds (ps:=["_law_drawn_here"]) (λ _ _ _ _ _ _=>eU (λ _=>rfl)),F51,MF X G a51,F51.binds (ps:=["_law_one", "_law_other"]) (λ _ _ _ _ _ _=>qH (λ _ _=>rfl)),F52,MF X G a52,F52.binds (ps:=["_law_drawn_here"]) (λ _ _ _ _ _ _=>eU (λ _=>rfl)),F53,MF X G a53,F53.binds (ps:=["_law_levels_here"]) (λ _ _ _ _ _ _=>eU (λ _=>rfl)),F54,MF X G a54,F54.binds (ps:=["_law_found", "_law_due_here"]) (λ _ _ _ _ _ _=>qH (λ _ _=>rfl)),F55,MF X G a55,F55.binds (ps:=["_law_found", "_law_drawn_here", "_law_levels_here"]) (λ _ _ _ _ _ _=>uk (λ _ _ _=>rfl)),F56,MF X G a56,F56.binds (ps:=["_law_way", "_law_statements"]) (λ _ _ _ _ _ _=>qH (λ _ _=>rfl)),F57,MF X G a57,F57.binds (ps:=["_law_script", "_law_room", "_law_built"]) (λ _ _ _ _ _ _=>uk (λ _ _ _=>rfl)),F58,MF X G a58,F58.binds (ps:=["_law_script"]) (λ _ _ _ _ _ _=>eU (λ _=>rfl)),Nf X G z0,Nf X G z1,Nf X G z2,Nf X G z3,Nf X G z4,Nf X G z5,Nf X G z6,Nf X G z7,Nf X G z8,Nf X G z9,Nf X G z10,Nf X G z11,Nf X G z12,Nf X G z13,⟨⟨cT40,rfl,u40⟩,by decide⟩,⟨⟨cT42,rfl,u42⟩,by decide⟩⟩;refine⟨λ p hp=>?_,λ bm hb=>?_,?_⟩
 ·simp only [tqs,ML,MK,N8] at hp
  rcases hp with rfl|rfl
  ·exact⟨v40,_,u40⟩
  ·exact⟨v42,_,u42⟩
 ·have e2:=hb.symm.trans (MF X G wb0);cases e2;exact wb1
 exact⟨W.fnOf "law" "law" (ez i6) (cj i6) (aa i6) .none kV58 dc58 pm58 an58 cd58 ct58,λ s v=>.of_eq rfl,λ base _ _=>Gw T⟩
theorem L6{l:W.OpenLaw}{q:Program}{loose:List Str}{XP:(Str->Option Value)->Heap->Prop}{YP:World->Heap->Prop}{d:DefRec}{K:Params->W.Frag}(hn:l.most=some 63)(hdf:d.params.defaults=[])
  (hY:∀ (w:World) (h:Heap),YP w h->(K w.params).In h) (hYt:∀ (w:World) (h:Heap),YP w h->∀ p∈tqs,h.get? p.1=some (W.tabObj #[]))
  (F:∀ (w:World) (mg:Str->Option Value) (fa:Addr) (h:Heap),(K w.params).In h->h.Ns mainGlobals mg->mg d.name=some (.ref fa) →
   (∀ p∈tqs,(K w.params).lookup p.1=none/\∃ c,i8 (K w.params) c p.1)/\(∀ bm,mg "__builtins__"=some (.ref bm)->(K w.params).lookup bm=none)/\∃ fd:FuncData,(∀ (s:Shared) (u:Value),BindsTo s fd ⟨[u],[]⟩ [("_law_script",u)])/\∀ base:Heap,(K w.params).In base->base.Ns mainGlobals mg->aW l.prog w (K w.params) mg base CX0 10 fa fd ["_law_script"] (uv (K w.params) mg)) :
  W.WalkO q loose XP YP l.row.toRowW d [] (λ f vs=>PySem.call f vs):=
 L2.IP tqs (n:=63) (k:=10) (x := "_law_script") (CX:=λ _=>CX0) (sp:=λ w mg=>uv (K w.params) mg) hn ⋯ hdf ⟨rfl,by decide,by decide⟩ hY hYt ⋯ F (λ _ _ _ a ns hl hS hT=>⟨a,rfl,ns,hS,hl,hT,λ _=>rfl⟩) λ _ _ _ _ _ z=>z
end PH
namespace PySem.W.Fast
def tw6935899250772113853:=0
def tw16598901541505781432:=0
def tw3466022355991713611:=0
def tw3480380342570795514:=0
def tw12130745348506129574:=0
def tw9574554729341200103:=0
def tw13472201421639168669:=0
def tw9731833785605110172:=0
def tw7315589177975101078:=0
def tw6443372866872152259:=0
def tw14030775137798339673:=0
def tw13935661462617935497:=0
def tw5905667806404466074:=0
def tw16626401795987265235:=0
def tw3319081251317896253:=0
def tw11273904886839431416:=0
def tw656953184676310395:=0
def tw11079208110907635321:=0
def tw1705909156972970527:=0
def tw2977625039740978426:=0
def tw3280419733581490974:=0
def tw4674224015704327515:=0
def tw2349499265775749812:=0
def tw18039617626100827432:=0
def tw3287917099208582768:=0
def tw17089176684215579418:=0
def tw9380767765911120070:=0
def tw7072284335345441974:=0
def tw10755988759213400647:=0
def tw1848111595842295167:=0
def tw14648482517817102723:=0
def tw14853068736426733966:=0
def tw18220158694482055436:=0
def tw13306117229196103272:=0
def tw16973553874961526959:=0
def tw3607304246608345180:=0
def tw9527626170214081745:=0
def tw10659803441430061801:=0
def tw17754386540657976266:=0
def tw11551391303498969522:=0
def tw13055611220381524033:=0
def tw10960565365172127145:=0
def tw5862711281859930606:=0
def tw9508545350761695571:=0
def tw10585768294706665833:=0
def tw9256798317477020850:=0
def tw984519552885812796:=0
def tw1525998867373245731:=0
def tw8942673054127568053:=0
def tw2344690080724932946:=0
def tw13100015295090478523:=0
def tw9261838391710739302:=0
def tw6797061643872360638:=0
def tw16440492267874858598:=0
def tw13461939204118435935:=0
def tw9602996971485026306:=0
def tw6712902274356549979:=0
def tw13697414292116773167:=0
def tw12267363712848391856:=0
def tw12753505791027359630:=0
def tw16572608134634443251:=0
def tw7255131637885244651:=0
def tw14363123032732426048:=0
def tw14397687350883314642:=0
def tw17473942271351206310:=0
def tw17503683244603276561:=0
def tw6488015791967189217:=0
def tw15886747428572628675:=0
def tw16539285388088234593:=0
def tw5113244405629389807:=0
def tw15751986297197160752:=0
def tw234153037523652312:=0
def tw1904390931100221714:=0
def tw1571112396908150248:=0
def tw13430961996790417276:=0
def tw6722165277649486765:=0
def tw8889699145356839260:=0
def tw896528688958943384:=0
def tw4612399973262989854:=0
def tw9097077948106676561:=0
def tw10506821483807822163:=0
def tw11112833353245002351:=0
def tw967571269043544425:=0
def tw2859916468914270559:=0
def tw13982636396826468068:=0
def tw9206282768114780036:=0
def tw8336605327176585004:=0
def tw8253066584602484056:=0
def tw8159356006359117906:=0
def tw8928553897919197262:=0
def tw11852820291897513953:=0
def tw10652084173300196311:=0
def tw13618485386034809668:=0
def tw4665851853976509885:=0
def tw1844137868507185996:=0
def tw13262689266012153874:=0
def tw1400435531642002946:=0
def tw1968167902721412941:=0
def tw17021527376970890499:=0
def tw11610503268527151164:=0
def tw13672642546628859564:=0
def tw17985120467980907513:=0
def tw1840549698351644077:=0
def tw10958214336925541676:=0
def tw7291578683887758542:=0
def tw14456315388327988442:=0
end PySem.W.Fast
open PySem PySem.W PyProof.Rows
theorem PySem.Challenge.cw_pacehall_k83_rounds_and_chains_holds : PySem.Challenge.rw_pacehall_k83_rounds_and_chains.Holds := by
 w_on;o_law;k_head;(case hw=>w_witness2)
 k_fill
 refine PH.L6 (l:=PySem.Challenge.rw_pacehall_k83_rounds_and_chains) rfl rfl (λ w h Y=>PySem.W.km_in_of Y) (λ w h Y p hp=>PySem.W.km_tabs_of Y p.1 ((show ∀ p∈PH.tqs,p.1∈[486,476] by decide) p hp)) ?F
 case F=>
  intro w mg fa h KX G hmg
  refine' PH.Ly KX G hmg ?y0 ?y1 ?y2 ?y3 ?y4 ?y5 ?y6 ?y7 ?y8 ?y9 ?y10 ?y11 ?o_NoPair ?x_NoPair_PaceError ?x_TooMany_PaceError ?ocs ?oct ?ga_NoPair ?gn_NoPair ?mb_NoPair ?mo_NoPair ?fc_NoPair ?hd_NoPair ?ga_TooMany ?gn_TooMany ?mb_TooMany ?mo_TooMany ?fc_TooMany ?hd_TooMany ?kc_NoPair_NoPair ?kt_NoPair_NoPair ?ks_NoPair_NoPair ?kc_NoPair_TooMany ?kt_NoPair_TooMany ?ks_NoPair_TooMany ?kn_NoPair_TooMany ?kc_TooMany_NoPair ?kt_TooMany_NoPair ?ks_TooMany_NoPair ?kn_TooMany_NoPair ?kc_TooMany_TooMany ?kt_TooMany_TooMany ?ks_TooMany_TooMany ?ks_NoPair_ValueError ?ks_TooMany_ValueError ?F0 ?a1 ?F1 ?a2 ?F2 ?a3 ?F3 ?a4 ?F4 ?a5 ?F5 ?a6 ?F6 ?a7 ?F7 ?a8 ?F8 ?a9 ?F9 ?a10 ?F10 ?F11 ?F12 ?F13 ?F14 ?F15 ?F16 ?F17 ?F18 ?a19 ?F19 ?a20 ?F20 ?a21 ?F21 ?a22 ?F22 ?F23 ?F24 ?F25 ?F26 ?F27 ?F28 ?F29 ?F30 ?F31 ?F32 ?F33 ?F34 ?F35 ?a36 ?F36 ?a37 ?F37 ?a38 ?F38 ?a39 ?F39 ?a40 ?l40 ?c40 ?k40 ?u40 ?v40 ?a41 ?F41 ?a42 ?l42 ?c42 ?k42 ?u42 ?v42 ?a43 ?F43 ?a44 ?F44 ?a45 ?F45 ?a46 ?F46 ?a47 ?F47 ?a48 ?F48 ?a49 ?F49 ?a50 ?F50 ?a51 ?F51 ?a52 ?F52 ?a53 ?F53 ?a54 ?F54 ?a55 ?F55 ?a56 ?F56 ?a57 ?F57 ?a58 ?l58 ?c58 ?k58 ?fi_TooMany ?xe_TooMany ?xf_TooMany ?xo_TooMany ?xs_TooMany ?xh_TooMany ?nt_TooMany_number ?nf_TooMany_number ?bs_PaceError ?br_PaceError ?bf_PaceError ?pg_View ?hd_View ?po_View ?sa_View ?nf_View_axes ?nf_View_first ?nf_View_room ?fi_View___init__ ?fn_View___init__ ?mm_View ?ck_View ?fi_View_sizes ?fn_View_sizes ?fi_View_paces ?fn_View_paces ?fi_View_count ?fn_View_count ?fi_View_cell ?fn_View_cell ?fi_View_cells ?fn_View_cells ?fi_View_least ?fn_View_least ?fi_View_greatest ?fn_View_greatest ?pg_Statement ?hd_Statement ?po_Statement ?sa_Statement ?mm_Statement ?ck_Statement ?fi0_Statement ?fi_Statement_writes ?fn_Statement_writes ?fi_Statement_reads ?fn_Statement_reads ?pg_Fill ?hd_Fill ?po_Fill ?sa_Fill ?nf_Fill_to ?nf_Fill_value ?fi_Fill_writes ?fn_Fill_writes ?fi_Fill_reads ?fn_Fill_reads ?fi_Fill___init__ ?fn_Fill___init__ ?mm_Fill ?ck_Fill ?pg_Copy ?hd_Copy ?po_Copy ?sa_Copy ?nf_Copy_source ?nf_Copy_to ?fi_Copy_writes ?fn_Copy_writes ?fi_Copy_reads ?fn_Copy_reads ?fi_Copy___init__ ?fn_Copy___init__ ?mm_Copy ?ck_Copy ?pg_Swap ?hd_Swap ?po_Swap ?sa_Swap ?nf_Swap_one ?nf_Swap_other ?fi_Swap_writes ?fn_Swap_writes ?fi_Swap_reads ?fn_Swap_reads ?fi_Swap___init__ ?fn_Swap___init__ ?mm_Swap ?ck_Swap ?pg_Raise ?hd_Raise ?po_Raise ?sa_Raise ?nf_Raise_source ?nf_Raise_to ?fi_Raise_writes ?fn_Raise_writes ?fi_Raise_reads ?fn_Raise_reads ?fi_Raise___init__ ?fn_Raise___init__ ?mm_Raise ?ck_Raise ?w0 ?w1 ?w2 ?w3 ?w4 ?z0 ?z1 ?z2 ?z3 ?z4 ?z5 ?z6 ?z7 ?z8 ?z9 ?z10 ?z11 ?z12 ?z13 ?wb0 ?wb1
  (case y0|y1|y2|y3|y4|y5|y6|y7|y8|y9|y10|y11=>first|k_is|k_exc|kts_exm|decide|rfl|decide +kernel|kernel_rfl)
  (case fi_TooMany|fi_View___init__|fi_View_sizes|fi_View_paces|fi_View_count|fi_View_cell|fi_View_cells|fi_View_least|fi_View_greatest|fi_Statement_writes|fi_Statement_reads|fi_Fill_writes=>first|k_is|k_exc|kts_exm|decide|rfl|decide +kernel|kernel_rfl)
  (case fi_Fill_reads|fi_Fill___init__|fi_Copy_writes|fi_Copy_reads|fi_Copy___init__|fi_Swap_writes|fi_Swap_reads|fi_Swap___init__|fi_Raise_writes|fi_Raise_reads|fi_Raise___init__|a1=>first|k_is|k_exc|kts_exm|decide|rfl|decide +kernel|kernel_rfl)
  (case a2|a3|a4|a5|a6|a7|a8|a9|a10|a19|a20|a21=>first|k_is|k_exc|kts_exm|decide|rfl|decide +kernel|kernel_rfl)
  (case a22|a36|a37|a38|a39|a40|a41|a42|a43|a44|a45|a46=>first|k_is|k_exc|kts_exm|decide|rfl|decide +kernel|kernel_rfl)
  (case a47|a48|a49|a50|a51|a52|a53|a54|a55|a56|a57|a58=>first|k_is|k_exc|kts_exm|decide|rfl|decide +kernel|kernel_rfl)
  (case F0|F1|F2|F3|F4|F5|F6|F7|F8|F9|F10|F11=>(refine' L2.vc ?l ?c ?k;(case l|c|k=>first|k_is|k_exc|kts_exm|decide|rfl|decide +kernel|kernel_rfl)))
  (case F12|F13|F14|F15|F16|F17|F18|F19|F20|F21|F22|F23=>(refine' L2.vc ?l ?c ?k;(case l|c|k=>first|k_is|k_exc|kts_exm|decide|rfl|decide +kernel|kernel_rfl)))
  (case F24|F25|F26|F27|F28|F29|F30|F31|F32|F33|F34|F35=>(refine' L2.vc ?l ?c ?k;(case l|c|k=>first|k_is|k_exc|kts_exm|decide|rfl|decide +kernel|kernel_rfl)))
  (case F36|F37|F38|F39|F41|F43|F44|F45|F46|F47|F48|F49=>(refine' L2.vc ?l ?c ?k;(case l|c|k=>first|k_is|k_exc|kts_exm|decide|rfl|decide +kernel|kernel_rfl)))
  (case F50|F51|F52|F53|F54|F55|F56|F57=>(refine' L2.vc ?l ?c ?k;(case l|c|k=>first|k_is|k_exc|kts_exm|decide|rfl|decide +kernel|kernel_rfl)))
  (case o_NoPair|x_NoPair_PaceError|x_TooMany_PaceError|ocs|oct|ga_NoPair|gn_NoPair|mb_NoPair|mo_NoPair|fc_NoPair|hd_NoPair|ga_TooMany=>first|k_is|k_exc|kts_exm|decide|rfl|decide +kernel|kernel_rfl)
  (case gn_TooMany|mb_TooMany|mo_TooMany|fc_TooMany|hd_TooMany|kc_NoPair_NoPair|kt_NoPair_NoPair|ks_NoPair_NoPair|kc_NoPair_TooMany|kt_NoPair_TooMany|ks_NoPair_TooMany|kn_NoPair_TooMany=>first|k_is|k_exc|kts_exm|decide|rfl|decide +kernel|kernel_rfl)
  (case kc_TooMany_NoPair|kt_TooMany_NoPair|ks_TooMany_NoPair|kn_TooMany_NoPair|kc_TooMany_TooMany|kt_TooMany_TooMany|ks_TooMany_TooMany|ks_NoPair_ValueError|ks_TooMany_ValueError|l40|c40|k40=>first|k_is|k_exc|kts_exm|decide|rfl|decide +kernel|kernel_rfl)
  (case v40|l42|c42|k42|v42|l58|c58|k58|xe_TooMany|xf_TooMany|xo_TooMany|xs_TooMany=>first|k_is|k_exc|kts_exm|decide|rfl|decide +kernel|kernel_rfl)
  (case xh_TooMany|nt_TooMany_number|nf_TooMany_number|bs_PaceError|br_PaceError|bf_PaceError|pg_View|hd_View|po_View|sa_View|nf_View_axes|nf_View_first=>first|k_is|k_exc|kts_exm|decide|rfl|decide +kernel|kernel_rfl)
  (case nf_View_room|fn_View___init__|mm_View|ck_View|fn_View_sizes|fn_View_paces|fn_View_count|fn_View_cell|fn_View_cells|fn_View_least|fn_View_greatest|pg_Statement=>first|k_is|k_exc|kts_exm|decide|rfl|decide +kernel|kernel_rfl)
  (case hd_Statement|po_Statement|sa_Statement|mm_Statement|ck_Statement|fi0_Statement|fn_Statement_writes|fn_Statement_reads|pg_Fill|hd_Fill|po_Fill|sa_Fill=>first|k_is|k_exc|kts_exm|decide|rfl|decide +kernel|kernel_rfl)
  (case nf_Fill_to|nf_Fill_value|fn_Fill_writes|fn_Fill_reads|fn_Fill___init__|mm_Fill|ck_Fill|pg_Copy|hd_Copy|po_Copy|sa_Copy|nf_Copy_source=>first|k_is|k_exc|kts_exm|decide|rfl|decide +kernel|kernel_rfl)
  (case nf_Copy_to|fn_Copy_writes|fn_Copy_reads|fn_Copy___init__|mm_Copy|ck_Copy|pg_Swap|hd_Swap|po_Swap|sa_Swap|nf_Swap_one|nf_Swap_other=>first|k_is|k_exc|kts_exm|decide|rfl|decide +kernel|kernel_rfl)
  (case fn_Swap_writes|fn_Swap_reads|fn_Swap___init__|mm_Swap|ck_Swap|pg_Raise|hd_Raise|po_Raise|sa_Raise|nf_Raise_source|nf_Raise_to|fn_Raise_writes=>first|k_is|k_exc|kts_exm|decide|rfl|decide +kernel|kernel_rfl)
  (case fn_Raise_reads|fn_Raise___init__|mm_Raise|ck_Raise|w0|w1|w2|w3|w4|z0|z1|z2=>first|k_is|k_exc|kts_exm|decide|rfl|decide +kernel|kernel_rfl)
  (case z3|z4|z5|z6|z7|z8|z9|z10|z11|z12|z13|wb0=>first|k_is|k_exc|kts_exm|decide|rfl|decide +kernel|kernel_rfl)
  (case wb1=>first|k_is|k_exc|kts_exm|decide|rfl|decide +kernel|kernel_rfl)
  (case u40=>(refine' L2.IS ?l ?h2 ?h3 ?h4 ?h5 ?h6 ?h7 ?h8;(case l=>k_is);(case h2|h3|h4|h5|h6|h7=>rfl);(case h8=>decide)))
  (case u42=>(refine' L2.IS ?l ?h2 ?h3 ?h4 ?h5 ?h6 ?h7 ?h8;(case l=>k_is);(case h2|h3|h4|h5|h6|h7=>rfl);(case h8=>decide)))
#print axioms PySem.Challenge.cw_pacehall_k83_rounds_and_chains_holds