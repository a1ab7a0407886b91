import PyProof.Rows.All
import Wide.All
import OpenK.AllK
import Wide.FinOn
import Lean
import PyProof.EqAt
import PyProof.EqKinds
import PyProof.TupleCall
import PySem.Challenge.RW_pacehall_k56_open_and_refused
set_option Elab.async false
set_option linter.all false
set_option maxRecDepth 100000
set_option maxHeartbeats 0
open List (mem_cons_self mem_cons_of_mem mem_append_left mem_append_right length_cons map_cons length_map append_nil of_mem_zip length_take getElem?_append_right getElem?_append_left getElem?_map mem_of_getElem? length_append size_toArray length_drop length_set length_singleton length_reverse map_nil find?_cons any_cons length_nil getElem_mem getElem?_eq_getElem lookup_cons getElem?_eq_none mem_cons not_mem_nil take_of_length_le take_length length_zip take_add_one map_map sum_cons getD_eq_getElem?_getD map_append)
namespace QL
def Mx:=@List.getElem?_eq_getElem
def My:=@PySem.wpAny_bind
def Mz:=@PySem.Heap.get?_push_of_some
def MB:=@List.getElem?_eq_some_iff
def MD:=@List.mem_cons_of_mem
def MF:=@List.mem_cons_self
def MG:=@Nat.le_refl
def MH:=@if_neg
def MI:=@if_pos
def MJ:=@PySem.Heap.lt_size
def MK:=@List.length_map
def ML:=@List.length_append
def MM:=@PySem.wpAny_pure
def MN:=@Nat.lt_of_lt_of_le
def MO:=@PySem.Heap.get?_push_size
def MP:=@List.getD_eq_getElem?_getD
def MQ:=@Bool.false_ne_true
def MS:=@Nat.ne_of_lt
def MU:=@List.mem_cons
def MV:=@List.mem_singleton
def MW:=@List.size_toArray
def MX:=@PySem.W.mg_of
def MY:=@decide_eq_true
def MZ:=@List.getElem?_map
def M3:=@decide_eq_false
def M4:=@Option.map_eq_some_iff
def M5:=@Int.le_refl
def M6:=@PySem.F.plainAttrs_list
def M7:=@PySem.PassesOwn.never
def M8:=@List.length_singleton
def M9:=@List.mem_map
def Na:=@List.not_mem_nil
def Nb:=@Int.mul_le_mul_of_nonneg_left
def Nc:=@List.length_cons
def Nd:=@Ne.symm
def Nf:=@List.map_cons
def Ng:=@List.getElem?_append_right
def Nh:=@Option.some.inj
def Ni:=@List.mem_append_right
def Nj:=@List.mem_append
def Nk:=@PySem.W.mg_none_of
def Nl:=@Array.getElem?_eq_some_iff
def Nm:=@Nat.le_trans
def Nn:=@PySem.wpAny_field
def Np:=@Nat.zero_le
def Nq:=@List.nodup_cons
def Nr:=@Int.emod_nonneg
def Nt:=@or_false
def Nu:=@List.getElem?_append_left
def Nv:=@Int.toNat_natCast
def Nw:=@List.getElem?_zip_eq_some
def Nx:=@List.getElem_mem
def Ny:=@PySem.wpAny_truthy_bool
def Nz:=@PySem.Heap.size_push
def NA:=@Int.eq_ofNat_of_zero_le
def NB:=@PyProof.Rows.callWith_type1
def NC:=@List.take_of_length_le
def ND:=@Int.fdiv_eq_ediv_of_nonneg
def NF:=@congrArg
def NG:=@Int.mul_zero
def NH:=@Int.emod_lt_of_pos
def NI:=@Int.add_zero
def NJ:=@List.length_zip
def NK:=@PySem.F.type_list_append
def NL:=@PySem.F.slot_list_append
def NM:=@PySem.Obj.isFreed_of_fields
def NN:=@PySem.Heap.get?_update_self
def NO:=@List.map_map
def NP:=@List.length_take
def NQ:=@List.mem_append_left
def NR:=@List.getElem?_eq_none
def NS:=@Int.zero_add
def NT:=@Int.ediv_nonneg
def NU:=@PySem.wpAny_seqItems
def NV:=@Nat.lt_irrefl
def NW:=@PySem.Heap.get?_update_other
def NX:=@PySem.wpAny_setField_rec
def NY:=@PySem.wpAny_Call_Name_kw
def NZ:=@PySem.Obj.data_mapFields
def N2:=@List.take_length
def N3:=@List.mem_of_getElem?
def N4:=@List.lookup_cons
def N5:=@PySem.wpAny_passesOwn
def N6:=@PySem.codeAny_mono
def N7:=@PySem.W.kia_one
def N8:=@List.mem_range
def N9:=@beq_self_eq_true
def Oa:=@Nat.lt_succ_self
def Ob:=@PySem.wpAny_holding
def Oc:=@beq_eq_false_iff_ne
def Od:=@PySem.mem_of_lookup
def Oe:=@List.map_congr_left
def Of:=@Int.mul_add
def Og:=@PySem.F.slot_tuple_iterator_next
def Oh:=@PySem.Heap.get?_none_of_le
def Oi:=@List.length_reverse
def Oj:=@Option.map_some
def Ol:=@List.length_eq_zero_iff
def Om:=@List.map_append
def Oo:=@PySem.Heap.SameBut.update
def Oq:=@PySem.wpAny_mono
def Ot:=@List.drop_of_length_le
def Ou:=@beq_iff_eq
def Ov:=@List.append_assoc
def Ow:=@PySem.wpAny_callSpecial?_slot
def Ox:=@List.mem_iff_getElem?
def Oy:=@Nat.le_add_right
def Oz:=@List.append_nil
def OA:=@PySem.wpAny_newObj_type
def OB:=@PySem.wpAny_setField
def OC:=@List.take_add_one
def OD:=@Int.mul_one
def OE:=@Bool.eq_iff_iff
def OF:=@Array.length_toList
def OG:=@PySem.wpAny_call_entry
def OH:=@Nat.ne_of_gt
def OI:=@Nat.lt_trans
def OJ:=@Nat.le_of_lt
def OK:=@List.zip_cons_cons
def OL:=@List.filter_append
def OM:=@Int.mul_comm
def ON:=@List.of_mem_zip
def OO:=@List.length_nil
def OP:=@List.drop_eq_getElem_cons
def OQ:=@Int.mul_nonneg
def OR:=@Classical.byContradiction
def OS:=@PySem.wpAny_execs_nil
def OT:=@PySem.F.args_tuple_add_2
def OU:=@Option.isSome_iff_exists
def OV:=@List.length_range
def OW:=@PySem.F.entry_tuple_add
def OX:=@List.getElem?_replicate
def OY:=@Int.mul_sub
def OZ:=@Nat.min_eq_right
def O0:=@Nat.le_of_not_lt
def O1:=@List.drop_length
def O2:=@PySem.F.slot_tuple_add
def O3:=@List.getElem?_set_self
def O4:=@List.find?_cons
def O5:=@PySem.wpAny_pyIter_list
def O6:=@PySem.F.type_list_pop
def O7:=@PySem.F.slot_list_pop
def O8:=@PySem.F.slot_dict_get
def O9:=@Nat.succ.inj
def Pa:=@Nat.min_eq_left
def Pb:=@Nat.le_of_eq
def Pc:=@List.mem_filter
def Pd:=@List.length_drop
def Pe:=@PySem.wpAny_standAt
def Pf:=@PySem.Paired.length
def Pg:=@List.getElem?_set_ne
def Ph:=@List.nodup_nil
def Pj:=@Int.mul_le_mul
def Pk:=@List.filterMap_cons
def Pl:=@PySem.Calls.callWith_builtin
def Pm:=@List.length_set
def Pn:=@PySem.F.slot_zip_next
def Po:=@PySem.wpAny_updateSeq_pair
def Pp:=@Nat.lt_succ_of_lt
def Pq:=@List.reverse_cons
def Pr:=@PySem.Calls.evalArgs_plain
def Pt:=@Array.getElem?_setIfInBounds_ne
def Pu:=@PySem.wpAny_comprehension_free
def Pw:=@Nat.sub_zero
def Px:=@Nat.le_total
def Py:=@List.getElem_zip
def Pz:=@List.eq_nil_of_length_eq_zero
def PB:=@List.all_eq_true
def PC:=@Bool.and_eq_true
def PD:=@List.sum_cons
def PF:=@PySem.wpAny_onRaise
def PJ:=@PySem.wpAny_attempt
def PL:=@PySem.tupleKind_room_in1
def PM:=@if_true
def PN:=@List.forIn_cons
def PQ:=@PySem.Calls.spliced_cons
end QL
open QL
namespace L2
open PySem PySem.Spec PyProof.Rows
abbrev Key:=Sum Int Str
def mw:Key->Value->Bool
 | .inl k,v=>Value.isInt k v
 | .inr x,v=>Value.isStrOf x v
def Mh(w:World):Key->Int
 | .inl k=>hashInt k
 | .inr x=>hashStr w x
theorem aT:∀ {k:Key}{v:Value},mw k v=true->(∃ i t,k=Sum.inl i/\v=Value.int i t)\/(∃ x t,k=Sum.inr x/\v=Value.str x t)
 | .inl i,v,h=>by
  obtain⟨t,e⟩:=Value.isInt_shape (k:=i) (v:=v) h;exact .inl ⟨i,t,rfl,e⟩
 | .inr x,v,h=>by
  obtain⟨t,e⟩:=Value.isStrOf_shape (x:=x) (v:=v) h;exact .inr ⟨x,t,rfl,e⟩
theorem xC(i:Int)(t:Tok):mw (.inl i) (.int i t)=true:=by simp [mw,Value.isInt]
theorem xB(x:Str)(t:Tok):mw (.inr x) (.str x t)=true:=by simp [mw,Value.isStrOf]
theorem Iv(a b:Int):decide ((Sum.inl a:Key)=Sum.inl b)=(a == b):=by
 by_cases e:a=b
 ·subst e;simp
 ·have h:¬ (Sum.inl a:Key)=Sum.inl b:=λ q=>e (Sum.inl.inj q);rw [M3 h];exact(Oc.mpr e).symm
theorem Iq(a b:Str):decide ((Sum.inr a:Key)=Sum.inr b)=decide (a=b):=by
 by_cases e:a=b
 ·subst e;simp
 ·have h:¬ (Sum.inr a:Key)=Sum.inr b:=λ q=>e (Sum.inr.inj q);rw [M3 h,M3 e]
theorem Iu(a:Int)(b:Str):decide ((Sum.inl a:Key)=Sum.inr b)=false:=M3 (λ q=>nomatch q)
theorem Ir(a:Str)(b:Int):decide ((Sum.inr a:Key)=Sum.inl b)=false:=M3 (λ q=>nomatch q)
def bz(prog:Program)(w:World):PySem.KeyKind prog w Key where
 is:=mw
 hash:=Mh w
 inj:=λ v a b ha hb=>by
  rcases aT ha with ⟨i,t,rfl,rfl⟩|⟨x,t,rfl,rfl⟩
  ·rcases aT hb with ⟨j,u,rfl,e⟩|⟨y,u,rfl,e⟩
   ·injection e with e1 _;rw [e1]
   ·exact nomatch e
  ·rcases aT hb with ⟨j,u,rfl,e⟩|⟨y,u,rfl,e⟩
   ·exact nomatch e
   ·injection e with e1 _;rw [e1]
 byValue:=λ k v h=>by
  rcases aT h with ⟨i,t,rfl,rfl⟩|⟨x,t,rfl,rfl⟩<;>rfl
 pyHash:=λ hv h=>by
  rcases aT hv with ⟨i,t,rfl,rfl⟩|⟨x,t,rfl,rfl⟩
  ·exact wpAny_pyHash_int h
  ·exact wpAny_pyHash_str h
 eqBool:=λ hu hv h=>by
  rcases aT hu with ⟨i,t,rfl,rfl⟩|⟨x,t,rfl,rfl⟩
  ·rcases aT hv with ⟨j,u,rfl,rfl⟩|⟨y,u,rfl,rfl⟩
   ·rw [Iv] at h;exact wpAny_eqBool_int h
   ·rw [Iu] at h;exact SeqAt.EqAt.int_str i t y u _ _ _ _ h
  ·rcases aT hv with ⟨j,u,rfl,rfl⟩|⟨y,u,rfl,rfl⟩
   ·rw [Ir] at h;exact SeqAt.EqAt.str_int x t j u _ _ _ _ h
   ·rw [Iq] at h;exact wpAny_eqBool_str h
 «strs»:=λ k x t v h=>by
  rcases aT h with ⟨i,u,rfl,e⟩|⟨y,u,rfl,e⟩
  ·exact nomatch e
  ·injection e with e1 _
   subst e1
   cases v<;>rfl
theorem pV(prog:Program)(w:World)(i:Int)(t:Tok):(bz prog w).is (.inl i) (.int i t)=true:=xC i t
theorem pU(prog:Program)(w:World)(x:Str)(t:Tok):(bz prog w).is (.inr x) (.str x t)=true:=xB x t
inductive V where
 | non|bl (b:Bool)|int (i:Int)|str (x:Str)|byt (b:Array UInt8)|flt (b:UInt64)|ref (a:Addr)|ty (n:String)
 deriving DecidableEq
def bF:V->Value->Prop
 | .non,u=>u=Value.none
 | .bl b,u=>u=Value.bool b
 | .int i,u=>∃ t,u=Value.int i t
 | .str x,u=>∃ t,u=Value.str x t
 | .byt b,u=>∃ t,u=Value.bytes b t
 | .flt b,u=>∃ t,u=Value.float b t
 | .ref a,u=>u=Value.ref a
 | .ty n,u=>u=Value.type n
abbrev bq:List V->List Value->Prop:=Paired bF
theorem bq.length{xs:List V}{us:List Value}(r:bq xs us):xs.length=us.length:=Pf r
theorem bq.get:∀ {xs:List V}{us:List Value}{i:Nat}{x:V},bq xs us->xs[i]? = some x->∃ u,us[i]? = some u/\bF x u
 | _,_,_,_,.nil,e=>by simp at e
 | _,_,0,_,.cons r _,e=>by simp at e;subst e;exact⟨_,rfl,r⟩
 | _,_,i+1,x,.cons _ t,e=>by
  obtain⟨u,h1,h2⟩:=bq.get (i:=i) (x:=x) t (by simpa using e);exact⟨u,by simpa using h1,h2⟩
theorem bq.set{x:V}{u:Value}(r:bF x u):∀ {xs:List V}{us:List Value}(i:Nat),bq xs us->bq (xs.set i x) (us.set i u)
 | _,_,_,.nil=>.nil
 | _,_,0,.cons _ t=>.cons r t
 | _,_,i+1,.cons q t=>.cons q (bq.set r i t)
theorem bq.append:∀ {xs ys:List V}{us ws:List Value},bq xs us->bq ys ws->bq (xs++ys) (us++ws)
 | _,_,_,_,.nil,s=>s
 | _,_,_,_,.cons r t,s=>.cons r (bq.append t s)
theorem bq.take:∀ {xs:List V}{us:List Value}(n:Nat),bq xs us->bq (xs.take n) (us.take n)
 | _,_,0,_=>.nil
 | _,_,_+1,.nil=>.nil
 | _,_,n+1,.cons r t=>.cons r (bq.take n t)
theorem bq.drop:∀ {xs:List V}{us:List Value}(n:Nat),bq xs us->bq (xs.drop n) (us.drop n)
 | _,_,0,r=>r
 | _,_,_+1,.nil=>.nil
 | _,_,n+1,.cons _ t=>bq.drop n t
def ml:Option V->Option Value->Prop
 | some v,some u=>bF v u
 | none,none=>True
 | _,_=>False
def KV{κ:Type}:List (κ × V)->List (κ × Value)->Prop:=Paired λ (p:κ × V) (q:κ × Value)=>p.1=q.1/\bF p.2 q.2
def kV:Key->V
 | .inl i=>.int i
 | .inr x=>.str x
inductive HO where
 | lst (xs:List V)
 | tup (xs:List V)
 | dK (kvs:List (Key × V))|dT (kvs:List (List Key × V))
 | set (S:Int->Bool) (n:Nat)
 | ins (C dx:Addr) (fs:List (Str × V))
 | own (x:Addr)
 | xd (fs:List (Str × V))
 | met (f x:Addr)
 | rng (lo hi:Int)
 | frz (o:Obj) (u:HO)
 | tbl (ps:Array Value)
 | ext (φ:Heap->Prop)
abbrev Hp:=Addr->Option HO
def upd(H:Hp)(a:Addr)(o:HO):Hp:=λ b=>if b=a then some o else H b
theorem aj{H:Hp}{a:Addr}{o:HO}:upd H a o a=some o:=by unfold upd;rw [if_pos rfl]
theorem ai{H:Hp}{a b:Addr}{o:HO}(h:b ≠ a):upd H a o b=H b:=by unfold upd;rw [if_neg h]
theorem Cn{H:Hp}{a:Addr}{o u:HO}:upd (upd H a o) a u=upd H a u:=by
 funext b;unfold upd;split<;>rfl
theorem J8{H:Hp}{a b:Addr}{o u:HO}(h:H a=some o)(h':H b=some u)(d:o ≠ u):a ≠ b:=by
 intro e;subst e;rw [h] at h';exact d (Nh h')
theorem bR{H:Hp}{a b:Addr}{o:HO}(h:H a=some o)(h':H b=none):a ≠ b:=by
 intro e;subst e;rw [h] at h';cases h'
section
variable (P:Program)(w:World)
def bK(H:Hp)(h:Heap)(a:Addr):HO->Prop
 | .lst xs=>xs.length<=sizeLine/\∃ (its:List Value) (n:Nat),bq xs its/\h.get? a=some { cls:=.type "list",data:=.seq its.toArray n }
 | .tup xs=>xs.length<=sizeLine/\∃ its:List Value,bq xs its/\IsTup h a its.toArray
 | .dK kvs=>kvs.length<=sizeLine/\(a == sysModules)=false/\∃ vs,KV kvs vs/\h.DictOf (bz P w) a vs
 | .dT kvs=>kvs.length<=sizeLine/\(a == sysModules)=false/\∃ xs:List (List Key × Addr × Value),
   Paired (λ (p:List Key × V) (q:List Key × Addr × Value)=>p.1=q.1/\H q.2.1=some (.tup (p.1.map kV))/\bF p.2 q.2.2) kvs xs /\
   ∃ o es ep,h.get? a=some o/\o.ExactDict/\o.data=.dict es ep/\es.toList=xs.map (entryOfKey (tupleKind (bz P w)))/\(xs.map (·.1)).Nodup
 | .set S n=>h.SetOf (intKind P w) a S n
 | .ins C dx fs=>H dx=some (.own a)/\fs.length<=1000/\dx ≠ a/\h.get? a=some (W.instObj C dx) /\
   ∃ mA,h.Ns1 dx mA/\(∀ f,ml (fs.lookup f) (mA f))/\PySem.Within mA (fs.map (·.1))
 | .own _=>∃ o,h.get? a=some o
 | .xd fs=>∃ mA,h.Ns1 a mA/\∀ f,ml (fs.lookup f) (mA f)
 | .rng lo hi=>∃ t u v,h.get? a=some { cls:=.type "range",data:=.fields #[.int lo t,.int hi u,.int 1 v] }
 | .frz o u=>h.get? a=some o/\bK H h a u
 | .tbl ps=>h.get? a=some { cls:=.none,data:=.fields ps }
 | .met f x=>h.get? a=some (W.methodObj (.ref f) (.ref x))
 | .ext φ=>φ h/\(∃ o,h.get? a=some o)/\∀ h1 h2:Heap,φ h1->(∀ o,h1.get? a=some o->h2.get? a=some o)->φ h2
def HOk(H:Hp)(h:Heap):Prop:=∀ a o,H a=some o->bK P w H h a o
end
section
variable {P:Program}{w:World}{H H':Hp}{h h':Heap}{a:Addr}{o:HO}
theorem bK.lt(x:bK P w H h a o):a < h.objs.size:=by
 cases o with
 | lst xs=>obtain⟨_,_,_,_,e⟩:=x;exact MJ e
 | tup xs=>obtain⟨_,_,_,p⟩:=x;exact p.lt
 | dK kvs=>obtain⟨_,_,_,_,o,_,_,e,_⟩:=x;exact MJ e
 | dT kvs=>obtain⟨_,_,_,_,o,_,_,e,_⟩:=x;exact MJ e
 | set S n=>obtain⟨o,_,_,_,e,_⟩:=x;exact MJ e
 | ins C dx fs=>obtain⟨_,_,_,e,_⟩:=x;exact MJ e
 | own y=>obtain⟨_,e⟩:=x;exact MJ e
 | xd fs=>obtain⟨_,⟨_,_,_,e,_⟩,_⟩:=x;exact MJ e
 | rng lo hi=>obtain⟨_,_,_,e⟩:=x;exact MJ e
 | frz ob u=>obtain⟨e,_⟩:=x;exact MJ e
 | tbl ps=>exact MJ (show h.get? a=some _ from x)
 | met f y=>exact MJ (show h.get? a=some _ from x)
 | ext φ=>obtain⟨_,⟨_,e⟩,_⟩:=x;exact MJ e
theorem Paired.mapP{α β:Type}{F G:α->β->Prop}:∀ {l₁:List α}{l₂:List β},Paired F l₁ l₂->(∀ a b,F a b->G a b)->Paired G l₁ l₂
 | _,_,.nil,_=>.nil
 | _,_,.cons r t,f=>.cons (f _ _ r) (Paired.mapP t f)
theorem bK.stay(x:bK P w H h a o)(k:∀ b u,(b=a\/H b=some (.own a))->h.get? b=some u->h'.get? b=some u)
  (ho:∀ b,H b=some (.own a)->H' b=some (.own a)) (ht:∀ b xs,H b=some (.tup xs)->H' b=some (.tup xs)):bK P w H' h' a o:=by
 induction o with
 | lst xs=>obtain⟨z,its,n,r,e⟩:=x;exact⟨z,its,n,r,k _ _ (.inl rfl) e⟩
 | tup xs=>obtain⟨z,its,r,ob,e,c⟩:=x;exact⟨z,its,r,ob,k _ _ (.inl rfl) e,c⟩
 | dK kvs=>obtain⟨z,y,vs,r,ob,es,ep,e,c⟩:=x;exact⟨z,y,vs,r,ob,es,ep,k _ _ (.inl rfl) e,c⟩
 | dT kvs=>
  obtain⟨z,y,xs,r,ob,es,ep,e,c⟩:=x;exact⟨z,y,xs,Paired.mapP r λ p q z=>⟨z.1,ht _ _ z.2.1,z.2.2⟩,ob,es,ep,k _ _ (.inl rfl) e,c⟩
 | set S n=>obtain⟨ob,es,ep,t,e,c⟩:=x;exact⟨ob,es,ep,t,k _ _ (.inl rfl) e,c⟩
 | ins C dx fs=>
  obtain⟨d,z,ne,e,mA,⟨od,es,ep,e2,c⟩,r⟩:=x;exact⟨ho _ d,z,ne,k _ _ (.inl rfl) e,mA,⟨od,es,ep,k _ _ (.inr d) e2,c⟩,r⟩
 | own y=>obtain⟨ob,e⟩:=x;exact⟨ob,k _ _ (.inl rfl) e⟩
 | xd fs=>obtain⟨mA,⟨od,es,ep,e,c⟩,r⟩:=x;exact⟨mA,⟨od,es,ep,k _ _ (.inl rfl) e,c⟩,r⟩
 | rng lo hi=>obtain⟨t,u,v,e⟩:=x;exact⟨t,u,v,k _ _ (.inl rfl) e⟩
 | frz ob u ih=>obtain⟨e,q⟩:=x;exact⟨k _ _ (.inl rfl) e,ih q⟩
 | tbl ps=>
  have e:h.get? a=some { cls:=.none,data:=.fields ps }:=x
  show h'.get? a=some { cls:=.none,data:=.fields ps }
  exact k a _ (.inl rfl) e
 | met f y=>
  have e:h.get? a=some (W.methodObj (.ref f) (.ref y)):=x
  show h'.get? a=some (W.methodObj (.ref f) (.ref y))
  exact k a _ (.inl rfl) e
 | ext φ=>obtain⟨p,⟨o,e⟩,st⟩:=x;exact⟨st _ _ p λ o q=>k _ _ (.inl rfl) q,⟨o,k _ _ (.inl rfl) e⟩,st⟩
theorem HOk.lt(x:HOk P w H h)(e:H a=some o):a < h.objs.size:=(x a o e).lt
theorem HOk.fresh(x:HOk P w H h)(e:h.objs.size<=a):H a=none:=by
 cases q:H a with
 | none=>rfl
 | some u=>exact absurd (MN (x.lt q) e) (NV _)
theorem HOk.kept(x:HOk P w H h)(k:∀ b u,h.get? b=some u->h'.get? b=some u):HOk P w H h':=λ a o e=>
 (x a o e).stay (λ b u _ q=>k b u q) (λ _ q=>q) λ _ _ q=>q
theorem HOk.laid(x:HOk P w H h)(k:∀ b u,h.get? b=some u->h'.get? b=some u)(hp:h.objs.size<=a)(new:bK P w (upd H a o) h' a o):HOk P w (upd H a o) h':=λ b u e=>by
 have hn:=x.fresh hp
 by_cases hb:b=a
 ·subst hb;rw [aj] at e;cases e;exact new
 ·rw [ai hb] at e;exact(x b u e).stay (λ c v _ q=>k c v q) (λ c q=>by rw [ai (bR q hn)];exact q) λ c xs q=>by rw [ai (bR q hn)];exact q
end
def Rd(H:Hp)(a:Addr)(u:HO):Prop:=H a=some u\/∃ o,H a=some (.frz o u)
theorem Rd.ok{P:Program}{w:World}{H:Hp}{h:Heap}{a:Addr}{u:HO}(r:Rd H a u)(x:HOk P w H h):bK P w H h a u:=by
 rcases r with r|⟨o,r⟩
 ·exact x a u r
 ·obtain⟨_,q⟩:=x a _ r;exact q
def Mut:Option HO->Prop
 | some (.lst _)=>True
 | some (.dK _)=>True
 | some (.dT _)=>True
 | some (.set _ _)=>True
 | some (.ins _ _ _)=>True
 | some (.ext _)=>True
 | _=>False
section
variable {P:Program}{w:World}{H:Hp}{h h':Heap}{x e:Addr}{o':HO}
theorem HOk.write(ok:HOk P w H h)(mu:Mut (H x))(he:e=x\/H e=some (.own x))(k:∀ b u,b ≠ e->h.get? b=some u->h'.get? b=some u)(heo:∃ u,h'.get? e=some u)
  (new:bK P w (upd H x o') h' x o'):HOk P w (upd H x o') h':=λ b u q=>by
 have nown:∀ c y,H c=some (.own y)->c ≠ x:=λ c y r z=>by subst z;rw [r] at mu;exact mu
 have ntup:∀ c xs,H c=some (.tup xs)->c ≠ x:=λ c xs r z=>by subst z;rw [r] at mu;exact mu
 by_cases hb:b=x
 ·subst hb;rw [aj] at q;cases q;exact new
 ·rw [ai hb] at q
  by_cases hbe:b=e
  ·have q':H b=some (.own x):=by
    rcases he with z|z
    ·exact absurd (hbe.trans z) hb
    ·rw [hbe];exact z
   rw [q] at q';cases q';obtain⟨v,hv⟩:=heo;exact⟨v,by rw [hbe];exact hv⟩
  ·refine(ok b u q).stay (λ c v hc r=>k c v ?_ r) (λ c r=>by rw [ai (nown c b r)];exact r) λ c xs r=>by rw [ai (ntup c xs r)];exact r
   rcases hc with rfl|hc
   ·exact hbe
   ·rintro rfl
    rcases he with z|z
    ·exact nown c b hc z
    ·rw [hc] at z;cases z;exact hb rfl
end
structure Un(fs ex:List Addr)(H H':Hp)(h h':Heap):Prop where
 keep:∀ b o,h.get? b=some o->H b=none->b ∉ fs->b ∉ ex->h'.get? b=some o
 slot:∀ b o,h.get? b=some o->H b=none->b∈fs->b ∉ ex->∃ sl,h'.get? b=some { o with slots:=sl }
 free:∀ b o,h.get? b=some o->H b=none->b ∉ ex->H' b=none
 there:∀ b o,h.get? b=some o->b ∉ ex->∃ o',h'.get? b=some o'
 tups:∀ b xs,H b=some (.tup xs)->H' b=some (.tup xs)
 frzs:∀ b o u,H b=some (.frz o u)->H' b=some (.frz o u)
 tbls:∀ b ps,H b=some (.tbl ps)->∃ more,H' b=some (.tbl (ps++more))
section
variable {fs fs' ex ex':List Addr}{H H1 H2:Hp}{h h1 h2 h':Heap}{a x e:Addr}{o:HO}
theorem Un.any(u:Un fs ex H H1 h h1){b:Addr}{ob:Obj}(q:h.get? b=some ob)(n:H b=none)(hx:b ∉ ex):∃ sl,h1.get? b=some { ob with slots:=sl }:=by
 by_cases hb:b∈fs
 ·exact u.slot b ob q n hb hx
 ·exact⟨ob.slots,u.keep b ob q n hb hx⟩
theorem Un.trans(a:Un fs ex H H1 h h1)(b:Un fs ex H1 H2 h1 h2):Un fs ex H H2 h h2 where
 keep:=λ c ob q n hc hx=>b.keep c ob (a.keep c ob q n hc hx) (a.free c ob q n hx) hc hx
 slot:=λ c ob q n hc hx=>by
  obtain⟨sl,e1⟩:=a.slot c ob q n hc hx;obtain⟨sl',e2⟩:=b.slot c _ e1 (a.free c ob q n hx) hc hx;exact⟨sl',e2⟩
 free:=λ c ob q n hx=>by
  obtain⟨o',e1⟩:=a.there c ob q hx;exact b.free c o' e1 (a.free c ob q n hx) hx
 there:=λ c ob q hx=>by
  obtain⟨o',e1⟩:=a.there c ob q hx;exact b.there c o' e1 hx
 tups:=λ c xs q=>b.tups c xs (a.tups c xs q)
 frzs:=λ c ob xs q=>b.frzs c ob xs (a.frzs c ob xs q)
 tbls:=λ c ps q=>by
  obtain⟨m1,e1⟩:=a.tbls c ps q;obtain⟨m2,e2⟩:=b.tbls c _ e1;exact⟨m1++m2,by rw [e2,Array.append_assoc]⟩
theorem Un.kept(k:∀ b u,h.get? b=some u->h'.get? b=some u):Un fs ex H H h h':=
 ⟨λ b ob q _ _ _=>k b ob q,λ b ob q _ _ _=>⟨ob.slots,k b ob q⟩,λ _ _ _ n _=>n,λ b ob q _=>⟨ob,k b ob q⟩,λ _ _ q=>q,λ _ _ _ q=>q,λ _ ps q=>⟨#[],by rw [q];simp⟩⟩
theorem Un.refl:Un fs ex H H h h:=Un.kept λ _ _ q=>q
theorem Un.laid(k:∀ b u,h.get? b=some u->h'.get? b=some u)(hp:h.objs.size<=a)(hn:H a=none):Un fs ex H (upd H a o) h h' where
 keep:=λ b u q _ _ _=>k b u q
 slot:=λ b u q _ _ _=>⟨u.slots,k b u q⟩
 free:=λ b u q n _=>by rw [ai (MS (MN (MJ q) hp))];exact n
 there:=λ b u q _=>⟨u,k b u q⟩
 tups:=λ b xs q=>by rw [ai (bR q hn)];exact q
 frzs:=λ b u xs q=>by rw [ai (bR q hn)];exact q
 tbls:=λ b ps q=>⟨#[],by rw [ai (bR q hn),q];simp⟩
theorem Un.write(mu:Mut (H x))(he:e=x\/H e=some (.own x))(k:∀ b u,b ≠ e->h.get? b=some u->h'.get? b=some u)(heo:∃ u,h'.get? e=some u):Un fs ex H (upd H x o) h h':=by
 have hx:∀ b,H b=none->b ≠ x:=λ b n z=>by subst z;rw [n] at mu;exact mu
 have hb:∀ b,H b=none->b ≠ e:=λ b n z=>by
  subst z
  rcases he with r|r
  ·exact hx b n r
  ·rw [n] at r;cases r
 have hm:∀ b u,H b=some u->¬ Mut (some u)->b ≠ x:=λ b u q nm z=>by subst z;rw [q] at mu;exact nm mu
 refine⟨λ b u q n _ _=>k b u (hb b n) q,λ b u q n _ _=>⟨u.slots,k b u (hb b n) q⟩,λ b u q n _=>by rw [ai (hx b n)];exact n,λ b u q _=>?_,
  λ b xs q=>by rw [ai (hm b _ q λ z=>z)];exact q,λ b u xs q=>by rw [ai (hm b _ q λ z=>z)];exact q,λ b ps q=>⟨#[],by rw [ai (hm b _ q λ z=>z),q];simp⟩⟩
 by_cases hbe:b=e
 ·subst hbe;exact heo
 ·exact⟨u,k b u hbe q⟩
end
def trk(h:Heap)(H:Hp):List Addr:=(List.range h.objs.size).filter λ a=>(H a).isSome
def yu(h:Heap)(H:Hp):Heap:=W.hideAll h (trk h H)
theorem xF(h:Heap)(H:Hp):(yu h H).objs.size=h.objs.size:=W.hideAll_size _ _
theorem As{h:Heap}{H:Hp}{b:Addr}{o:Obj}(e:h.get? b=some o)(n:H b=none):(yu h H).get? b=some o:=
 W.hideAll_get _ e λ hm=>by
  have q:(H b).isSome=true:=(Pc.mp hm).2;rw [n] at q;simp at q
theorem C9{h:Heap}{H:Hp}{b:Addr}{o:Obj}(e:(yu h H).get? b=some o):h.get? b=some o/\H b=none:=by
 have e':h.get? b=some o:=W.of_hideAll (trk h H) e;refine⟨e',?_⟩
 cases q:H b with
 | none=>rfl
 | some x=>
  have hm:b∈trk h H:=Pc.mpr ⟨N8.mpr (MJ e'),by simp [q]⟩;have z:(yu h H).get? b=none:=W.hideAll_none (trk h H) hm;rw [z] at e;cases e
def EL(g h:Heap)(L:Addr):List (Addr × Obj):=(List.range h.objs.size).filterMap λ a=>if a=L\/(g.get? a).isSome=true then none else (h.get? a).map λ o=>(a,o)
def rest(g h:Heap)(L d:Addr):List (Addr × Obj):=(EL g h L).filter λ p=>decide (p.1 ≠ d)
structure Mod(K:W.Frag)(mg:Str->Option Value)(base:Heap):Prop where
 kin:K.In base
 glob:base.Ns mainGlobals mg
 blt:∃ mb,base.Ns builtinsNs mb/\∀ x:Str,x ≠ "__name__" → mb x=bootBuiltins x
 nolimit:base.NoLimit
structure Cx where
 prog:Program
 w:World
 K:W.Frag
 mg:Str->Option Value
 base:Heap
 A:Around
 N:List Str
 s₀:Shared
 H₀:Hp
 env:Env
 outer:List Env
 stack:List Env
 ex:List Addr
 fn:Str->Bool
 calm:Bool
 pn:List (Addr × Obj)
 xe:Value->Shared->Prop
def frs(l:List Env):List Addr:=l.filterMap (·.frame)
abbrev Cx.fs(X:Cx):List Addr:=frs X.outer
def Vis(sc:Scope)(x:Str):Prop:=sc.names.lookup x=some .local\/sc.names.lookup x=some .cell\/sc.names.lookup x=some .free
def Loc(sc:Scope)(x:Str):Prop:=sc.names.lookup x=some .local\/sc.names.lookup x=some .cell
def Mq(env:Env)(h:Heap)(m:Str->Option Value)(x:Str)(u:Value):Prop:=
 (env.kindOf x=some .local/\m x=some u)\/((env.kindOf x=some .cell\/env.kindOf x=some .free)/\∃ c,env.cells.lookup x=some c/\h.IsCell c (some u))
structure Cx.Ok(X:Cx):Prop where
 mod:Mod X.K X.mg X.base
 kind:X.env.scope.kind=.function
 glob:X.env.globals=mainGlobals
 blt:X.env.builtins=builtinsNs
 above:X.s₀.heap.objs.size<=X.env.locals
 inj:∀ x y c,X.env.cells.lookup x=some c->X.env.cells.lookup y=some c->x=y
 has:∀ x,(X.env.kindOf x=some .cell\/X.env.kindOf x=some .free)->∃ c,X.env.cells.lookup x=some c
 cab:∀ x c,X.fn x=true->X.env.cells.lookup x=some c->X.s₀.heap.objs.size<=c
 hd:X.calm=true->X.A.handled=none
 frames:X.A.frames=some X.stack
 stk:X.stack=X.outer\/(X.stack=X.env::X.outer/\X.env.frame=some X.env.locals)
 exf:∀ b∈X.ex,b ≠ X.env.locals/\∀ x c,X.env.cells.lookup x=some c->c ≠ b
 bs:∀ b o,X.base.get? b=some o->X.s₀.heap.get? b=some o/\X.H₀ b=none
 bsz:X.base.objs.size<=X.s₀.heap.objs.size
 noex:∀ b o,X.base.get? b=some o->b ∉ X.ex
 exfs:∀ b∈X.ex,b ∉ X.fs
 funs:X.s₀.heap.FunFrames X.base X.outer
 frf:∀ b∈X.fs,X.H₀ b=none
structure Inv(X:Cx)(pins:List (Addr × Obj))(σ:List (Option V))(H:Hp)(s:Shared):Prop where
 ok:X.Ok
 os:s.os=X.s₀.os
 bare:AllBare s.gens
 base:Un X.fs X.ex X.H₀ H X.s₀.heap s.heap
 loc:∃ m,s.heap.Ns X.env.locals m/\∀ (i:Nat) (x:Str) (v:V),X.N[i]? = some x->σ[i]? = some (some v)->Vis X.env.scope x->∃ u,bF v u/\Mq X.env s.heap m x u
 cell:∀ x c,X.env.cells.lookup x=some c->∃ v,s.heap.IsCell c v
 free:H X.env.locals=none
 freeC:∀ x c,X.env.cells.lookup x=some c->H c=none
 pin:∀ p∈X.pn++pins,s.heap.get? p.1=some p.2/\H p.1=none/\p.1 ≠ X.env.locals/\p.1 ∉ X.fs/\∀ v,p.2.data ≠ .cell v
 hok:HOk X.prog X.w H s.heap
 len:σ.length=X.N.length
section
variable {X:Cx}{pins:List (Addr × Obj)}{σ:List (Option V)}{H H':Hp}{s:Shared}{h':Heap}
theorem Cx.Ok.nofr(ok:X.Ok){b:Addr}{o:Obj}(e:X.base.get? b=some o):b ∉ X.fs:=λ hb=>by
 have:=(ok.funs.mem hb).1;rw [e] at this;cases this
theorem Inv.bs(I:Inv X pins σ H s):∀ b o,X.base.get? b=some o->s.heap.get? b=some o/\H b=none:=λ b o e=>
 ⟨I.base.keep b o (I.ok.bs b o e).1 (I.ok.bs b o e).2 (I.ok.nofr e) (I.ok.noex b o e),I.base.free b o (I.ok.bs b o e).1 (I.ok.bs b o e).2 (I.ok.noex b o e)⟩
theorem Inv.bk(I:Inv X pins σ H s):∀ b o,X.base.get? b=some o->s.heap.get? b=some o:=λ b o e=>(I.bs b o e).1
theorem Inv.mod(I:Inv X pins σ H s):Mod X.K X.mg X.base:=I.ok.mod
theorem Inv.kIn(I:Inv X pins σ H s):X.K.In s.heap:=I.ok.mod.kin.keeps I.bk
theorem Inv.lt(I:Inv X pins σ H s):X.env.locals < s.heap.objs.size:=let ⟨_,hn,_⟩:=I.loc;hn.lt
theorem Inv.sz(I:Inv X pins σ H s):X.s₀.heap.objs.size<=s.heap.objs.size:=Nm I.ok.above (OJ I.lt)
theorem Inv.nofs(I:Inv X pins σ H s){a:Addr}(h:s.heap.objs.size<=a):a ∉ X.fs:=λ hb=>by
 obtain⟨_,o,ho,_⟩:=I.ok.funs.mem hb;exact absurd (MN (MJ ho) (Nm I.sz h)) (NV _)
theorem Inv.cne(I:Inv X pins σ H s):∀ x c,X.env.cells.lookup x=some c->c ≠ X.env.locals:=λ x c e z=>by
 obtain⟨v,o,ho,hd⟩:=I.cell x c e;obtain⟨m,⟨o',es,ep,ho',hd',_⟩,_⟩:=I.loc;rw [z,ho'] at ho;cases ho;rw [hd'] at hd;cases hd
theorem Inv.funs(I:Inv X pins σ H s):s.heap.FunFrames X.base X.outer:=by
 have all:∀ (l:List Env),(∀ b∈frs l,b∈X.fs)->X.s₀.heap.FunFrames X.base l->s.heap.FunFrames X.base l:=by
  intro l
  induction l with
  | nil=>intro _ _;trivial
  | cons env r ih=>
   intro hs hl;obtain⟨hk,⟨L,o,hf,hn,ho,hd⟩,hr⟩:=hl;have hL:L∈X.fs:=hs L (by unfold frs;rw [List.filterMap_cons,hf];exact mem_cons_self);obtain⟨sl,e⟩:=I.base.slot L o ho (I.ok.frf L hL) hL λ z=>I.ok.exfs L z hL;exact⟨hk,⟨L,_,hf,hn,e,hd⟩,ih (λ b hb=>hs b (by unfold frs;rw [List.filterMap_cons,hf];exact mem_cons_of_mem _ hb)) hr⟩
 exact all X.outer (λ _ hb=>hb) I.ok.funs
theorem Inv.stack(I:Inv X pins σ H s):s.heap.FunFrames X.base X.stack:=by
 rcases I.ok.stk with e|⟨e,hf⟩
 ·rw [e];exact I.funs
 ·rw [e];obtain⟨m,hn,_⟩:=I.loc;refine .cons (by rw [I.ok.kind];decide) hf hn ?_ I.funs;exact Oh (Nm I.ok.bsz I.ok.above)
theorem Inv.stkSub(I:Inv X pins σ H s):∀ b∈frs X.stack,b∈X.env.locals::X.fs:=λ b hb=>by
 rcases I.ok.stk with e|⟨e,hf⟩
 ·rw [e] at hb;exact MD _ hb
 ·rw [e] at hb;unfold frs at hb;rw [List.filterMap_cons,hf] at hb;exact hb
theorem Inv.stkFree(I:Inv X pins σ H s):∀ b∈frs X.stack,H b=none:=λ b hb=>by
 rcases MU.mp (I.stkSub b hb) with e|hb
 ·rw [e];exact I.free
 ·obtain⟨_,o,ho,_⟩:=I.ok.funs.mem hb;exact I.base.free b o ho (I.ok.frf b hb) λ z=>I.ok.exfs b z hb
theorem Inv.step{g':Array GenState}{t':Nat}{d':Drawn}{ch:List Addr}(I:Inv X pins σ H s)
  (hch:∀ b∈ch,(b∈X.ex\/X.s₀.heap.objs.size<=b)/\b ≠ X.env.locals/\(∀ x c,X.env.cells.lookup x=some c->c ≠ b)/\∀ p∈X.pn++pins,p.1 ≠ b)
  (keep:∀ b o,b ≠ X.env.locals->b ∉ X.fs->b ∉ ch->s.heap.get? b=some o->H b=none->h'.get? b=some o)
  (slot:∀ b o,b ≠ X.env.locals->b∈X.fs->b ∉ ch->s.heap.get? b=some o->H b=none->∃ sl,h'.get? b=some { o with slots:=sl }) (free:∀ b o,b ∉ ch->s.heap.get? b=some o->H b=none->H' b=none)
  (there:∀ b o,b ∉ ch->s.heap.get? b=some o->∃ o',h'.get? b=some o')
  (tups:∀ b xs,H b=some (.tup xs)->H' b=some (.tup xs)) (frzs:∀ b o u,H b=some (.frz o u)->H' b=some (.frz o u)) (tbls:∀ b ps,H b=some (.tbl ps)->∃ more,H' b=some (.tbl (ps++more)))
  (ns:∀ m,s.heap.Ns X.env.locals m->h'.Ns X.env.locals m) (hok:HOk X.prog X.w H' h') (hg:AllBare g') :
  Inv X pins σ H' { s with heap:=h',gens:=g',drawn:=d',toks:=t' }:=by
 have neL:∀ b o,X.s₀.heap.get? b=some o->b ≠ X.env.locals:=λ b o e=>MS (MN (MJ e) I.ok.above)
 have neC:∀ b o,X.s₀.heap.get? b=some o->b ∉ X.ex->b ∉ ch:=λ b o e hx hb=>by
  rcases (hch b hb).1 with z|z
  ·exact hx z
  ·exact absurd (MN (MJ e) z) (NV _)
 have cellK:∀ x c,X.env.cells.lookup x=some c->∀ v,s.heap.IsCell c v->h'.IsCell c v:=λ x c e v ⟨o,ho,hd⟩=>by
  have nch:c ∉ ch:=λ z=>(hch c z).2.2.1 x c e rfl
  by_cases hc:c∈X.fs
  ·obtain⟨sl,q⟩:=slot c o (I.cne x c e) hc nch ho (I.freeC x c e);exact⟨_,q,hd⟩
  ·exact⟨o,keep c o (I.cne x c e) hc nch ho (I.freeC x c e),hd⟩
 refine⟨I.ok,I.os,hg,⟨λ b o e n hb hx=>?_,λ b o e n hb hx=>?_,λ b o e n hx=>?_,λ b o e hx=>?_,λ b xs e=>tups b xs (I.base.tups b xs e),λ b o xs e=>frzs b o xs (I.base.frzs b o xs e),λ b ps e=>?_⟩,?_,λ x c e=>?_,?_,λ x c e=>?_,λ p hp=>?_,hok,I.len⟩
 ·exact keep b o (neL b o e) hb (neC b o e hx) (I.base.keep b o e n hb hx) (I.base.free b o e n hx)
 ·obtain⟨sl,e1⟩:=I.base.slot b o e n hb hx;obtain⟨sl',e2⟩:=slot b _ (neL b o e) hb (neC b o e hx) e1 (I.base.free b o e n hx);exact⟨sl',e2⟩
 ·obtain⟨o',e1⟩:=I.base.there b o e hx;exact free b o' (neC b o e hx) e1 (I.base.free b o e n hx)
 ·obtain⟨o',e1⟩:=I.base.there b o e hx;exact there b o' (neC b o e hx) e1
 ·obtain⟨m1,e1⟩:=I.base.tbls b ps e;obtain⟨m2,e2⟩:=tbls b _ e1;exact⟨m1++m2,by rw [e2,Array.append_assoc]⟩
 ·obtain⟨m,hn,hl⟩:=I.loc;refine⟨m,ns m hn,λ i x v e1 e2 e3=>?_⟩;obtain⟨u,r,l⟩:=hl i x v e1 e2 e3;refine⟨u,r,?_⟩
  rcases l with l|⟨k,c,e,z⟩
  ·exact .inl l
  ·exact .inr ⟨k,c,e,cellK x c e _ z⟩
 ·obtain⟨v,z⟩:=I.cell x c e;exact⟨v,cellK x c e v z⟩
 ·obtain⟨m,⟨o,_,_,ho,_⟩,_⟩:=I.loc;exact free _ o (λ z=>(hch _ z).2.1 rfl) ho I.free
 ·obtain⟨v,o,ho,hd⟩:=I.cell x c e;exact free c o (λ z=>(hch c z).2.2.1 x c e rfl) ho (I.freeC x c e)
 ·obtain⟨e,n,ne,nf,d⟩:=I.pin p hp;have nch:p.1 ∉ ch:=λ z=>(hch p.1 z).2.2.2 p hp rfl;exact⟨keep p.1 p.2 ne nf nch e n,free p.1 p.2 nch e n,ne,nf,d⟩
theorem Inv.un{t':Nat}(I:Inv X pins σ H s)(u:Un X.fs [] H H' s.heap h')(hok:HOk X.prog X.w H' h'):Inv X pins σ H' { s with heap:=h',toks:=t' }:=by
 obtain⟨m,⟨o,es,ep,ho,r⟩,_⟩:=id I.loc;obtain⟨sl,hL⟩:=u.any ho I.free (by simp)
 exact I.step (g':=s.gens) (d':=s.drawn) (ch:=[]) (λ _ z=>nomatch z) (λ b o _ hb _ e n=>u.keep b o e n hb (by simp)) (λ b o _ hb _ e n=>u.slot b o e n hb (by simp)) (λ b o _ e n=>u.free b o e n (by simp)) (λ b o _ e=>u.there b o e (by simp)) u.tups u.frzs u.tbls (λ m' hm=>by
  obtain⟨o',es',ep',ho',r'⟩:=hm;rw [ho] at ho';cases ho';exact⟨_,es',ep',hL,r'⟩) hok I.bare
theorem Inv.call{g':Array GenState}{t':Nat}{d':Drawn}{ch:List Addr}(I:Inv X pins σ H s)(u:Un (frs X.stack) ch H H' s.heap h')(hok:HOk X.prog X.w H' h')(hg:AllBare g')
  (hch:∀ b∈ch,(b∈X.ex\/X.s₀.heap.objs.size<=b)/\b ≠ X.env.locals/\(∀ x c,X.env.cells.lookup x=some c->c ≠ b)/\∀ p∈X.pn++pins,p.1 ≠ b) :
  Inv X pins σ H' { s with heap:=h',gens:=g',drawn:=d',toks:=t' }:=by
 obtain⟨m,⟨o,es,ep,ho,r⟩,_⟩:=id I.loc;obtain⟨sl,hL⟩:=u.any ho I.free λ z=>(hch _ z).2.1 rfl
 exact I.step (ch:=ch) hch (λ b o hL hb hc e n=>u.keep b o e n (λ z=>(MU.mp (I.stkSub b z)).elim hL hb) hc) (λ b o _ _ hc e n=>u.any e n hc) (λ b o hc e n=>u.free b o e n hc) (λ b o hc e=>u.there b o e hc) u.tups u.frzs u.tbls (λ m' hm=>by
  obtain⟨o',es',ep',ho',r'⟩:=hm;rw [ho] at ho';cases ho';exact⟨_,es',ep',hL,r'⟩) hok hg
theorem Inv.turned{t':Nat}{it:Addr}(I:Inv X pins σ H s)(k:∀ b o,b ≠ it->s.heap.get? b=some o->h'.get? b=some o)(hn:H it=none)(hL:it ≠ X.env.locals)
  (h1:it∈X.ex\/X.s₀.heap.objs.size<=it) (h2:∀ x c,X.env.cells.lookup x=some c->c ≠ it) (h3:∀ p∈X.pn++pins,p.1 ≠ it):Inv X pins σ H { s with heap:=h',toks:=t' }:=by
 have nit:∀ b u,H b=some u->b ≠ it:=λ b u e z=>by rw [z,hn] at e;cases e
 refine I.step (g':=s.gens) (d':=s.drawn) (ch:=[it]) (λ b hb=>?_) (λ b o _ _ hc e _=>k b o (λ z=>hc (by simp [z])) e) (λ b o _ _ hc e _=>⟨o.slots,k b o (λ z=>hc (by simp [z])) e⟩) (λ _ _ _ _ n=>n)
  (λ b o hc e=>⟨o,k b o (λ z=>hc (by simp [z])) e⟩) (λ _ _ e=>e) (λ _ _ _ e=>e) (λ b ps e=>⟨#[],by rw [e];simp⟩) (λ m hm=>?_) (λ b u e=>?_) I.bare
 ·have e:b=it:=by simpa using hb
  subst e;exact⟨h1,hL,h2,h3⟩
 ·obtain⟨o,es,ep,ho,r⟩:=hm;exact⟨o,es,ep,k _ o (Nd hL) ho,r⟩
 ·refine(I.hok b u e).stay (λ c v hc q=>k c v ?_ q) (λ _ q=>q) λ _ _ q=>q
  rcases hc with z|z
  ·rw [z];exact nit b u e
  ·exact nit c _ z
theorem Inv.tok(I:Inv X pins σ H s)(t:Nat):Inv X pins σ H { s with toks:=t }:=I.un (h':=s.heap) (t':=t) Un.refl I.hok
theorem Inv.kept{t':Nat}(I:Inv X pins σ H s)(k:∀ b u,s.heap.get? b=some u->h'.get? b=some u):Inv X pins σ H { s with heap:=h',toks:=t' }:=I.un (Un.kept k) (I.hok.kept k)
theorem Inv.laid{a:Addr}{o:HO}{t':Nat}(I:Inv X pins σ H s)(k:∀ b u,s.heap.get? b=some u->h'.get? b=some u)(hp:s.heap.objs.size<=a)(new:bK X.prog X.w (upd H a o) h' a o) :
  Inv X pins σ (upd H a o) { s with heap:=h',toks:=t' }:=I.un (Un.laid k hp (I.hok.fresh hp)) (I.hok.laid k hp new)
theorem Inv.write{x e:Addr}{o:HO}{t':Nat}(I:Inv X pins σ H s)(mu:Mut (H x))(he:e=x\/H e=some (.own x))(k:∀ b u,b ≠ e->s.heap.get? b=some u->h'.get? b=some u)(heo:∃ u,h'.get? e=some u)
  (new:bK X.prog X.w (upd H x o) h' x o):Inv X pins σ (upd H x o) { s with heap:=h',toks:=t' }:=I.un (Un.write mu he k heo) (I.hok.write mu he k heo new)
theorem Inv.weak{σ':List (Option V)}(I:Inv X pins σ H s)(hl:σ'.length=σ.length)(w:∀ (i:Nat) v,σ'[i]? = some (some v)->σ[i]? = some (some v)):Inv X pins σ' H s:=
 ⟨I.ok,I.os,I.bare,I.base,let ⟨m,hn,hl'⟩:=I.loc;⟨m,hn,λ i x v e1 e2 e3=>hl' i x v e1 (w i v e2) e3⟩,I.cell,I.free,I.freeC,I.pin,I.hok,hl.trans I.len⟩
theorem Inv.pins_of{pins':List (Addr × Obj)}(I:Inv X pins σ H s)(h:∀ p∈pins',s.heap.get? p.1=some p.2/\H p.1=none/\p.1 ≠ X.env.locals/\p.1 ∉ X.fs/\∀ v,p.2.data ≠ .cell v):Inv X pins' σ H s:=
 ⟨I.ok,I.os,I.bare,I.base,I.loc,I.cell,I.free,I.freeC,λ p hp=>(Nj.mp hp).elim (λ z=>I.pin p (NQ _ z)) (h p),I.hok,I.len⟩
theorem ll{N:List Str}(hN:N.Nodup){i j:Nat}{x:Str}(a:N[i]? = some x)(b:N[j]? = some x):i=j:=by
 obtain⟨h1,e1⟩:=MB.mp a;obtain⟨h2,e2⟩:=MB.mp b;exact(List.getElem_inj hN).mp (e1.trans e2.symm)
theorem mK{M:Model}{A:Around}{E:Value->Shared->Prop}{i:Nat}{x:Str}{v:V}{u:Value}{Q:Unit->Shared->Prop}(I:Inv X pins σ H s)(hN:X.N.Nodup)(hi:X.N[i]? = some x)(hx:Loc X.env.scope x)(r:bF v u)
  (h:∀ s',Inv X pins (σ.set i (some v)) H s'->(∃ a,Heap.SameBut a s.heap s'.heap/\(a=X.env.locals\/X.env.cells.lookup x=some a))->Q () s') (hf:X.fn x=true\/X.env.scope.names.lookup x=some .local:=by first|exact .inl rfl|exact .inr rfl|assumption):wpAny M A (storeName X.env x u) Q E s:=by
 obtain⟨m,hn,hl⟩:=id I.loc;have hcls:(X.env.scope.kind == .class || (X.env.scope.kind == .module && X.env.locals != X.env.globals))=false:=by rw [I.ok.kind];rfl
 have hiσ:i < σ.length:=by rw [I.len];exact(MB.mp hi).1
 have cne:=I.cne
 have tracked:∀ {a:Addr} {h':Heap},(∃ o,s.heap.get? a=some o/\H a=none)->Heap.SameBut a s.heap h'->HOk X.prog X.w H h':=λ {a h'} ha hs b ob e=>by
  obtain⟨_,_,hfree⟩:=ha;refine(I.hok b ob e).stay (λ c w' hc q=>(hs.2 c ?_).trans q) (λ _ q=>q) λ _ _ q=>q;rintro rfl
  rcases hc with rfl|hc
  ·rw [hfree] at e;cases e
  ·rw [hfree] at hc;cases hc
 rcases hx with hk|hk
 ·refine wpAny_storeName_local hk hn (λ h' hn' hs=>?_) hcls;obtain⟨oL,_,_,hoL,_⟩:=id hn;refine h _ ⟨I.ok,I.os,I.bare,⟨λ b o e n hb hx=>?_,λ b o e n hb hx=>?_,I.base.free,λ b o e hx=>?_,I.base.tups,I.base.frzs,I.base.tbls⟩,⟨_,hn',λ j y v' e1 e2 e3=>?_⟩,λ y c e=>?_,I.free,I.freeC,λ p hp=>?_,tracked ⟨oL,hoL,I.free⟩ hs,by simpa using I.len⟩ ⟨_,hs,.inl rfl⟩
  ·exact(hs.2 b (MS (MN (MJ e) I.ok.above))).trans (I.base.keep b o e n hb hx)
  ·obtain⟨sl,e1⟩:=I.base.slot b o e n hb hx;exact⟨sl,(hs.2 b (MS (MN (MJ e) I.ok.above))).trans e1⟩
  ·obtain⟨o',e1⟩:=I.base.there b o e hx;exact⟨o',(hs.2 b (MS (MN (MJ e) I.ok.above))).trans e1⟩
  ·by_cases hj:j=i
   ·subst hj;rw [hi] at e1;cases e1;rw [O3 hiσ] at e2;cases e2;exact⟨u,r,.inl ⟨hk,by simp⟩⟩
   ·rw [Pg (Nd hj)] at e2;obtain⟨u',r',q⟩:=hl j y v' e1 e2 e3;refine⟨u',r',?_⟩
    rcases q with ⟨k,e⟩|⟨k,c,e,z⟩
    ·refine .inl ⟨k,?_⟩;have:y ≠ x:=λ e=>hj (ll hN e1 (e ▸ hi));simp [this,e]
    ·exact .inr ⟨k,c,e,z.sameBut hs (cne y c e)⟩
  ·obtain⟨w',z⟩:=I.cell y c e;exact⟨w',z.sameBut hs (cne y c e)⟩
  ·obtain⟨e,n,ne,nf,d⟩:=I.pin p hp;exact⟨(hs.2 p.1 ne).trans e,n,ne,nf,d⟩
 ·have hfn:X.fn x=true:=by
   rcases hf with z|z
   ·exact z
   ·rw [z] at hk;cases hk
  obtain⟨c,hc⟩:=I.ok.has x (.inl hk);obtain⟨w',z⟩:=I.cell x c hc;refine wpAny_storeName_cell I.ok.kind hk hc z (λ h' hc' hs=>?_);obtain⟨oc,hoc,hocd⟩:=id z;refine h { s with heap:=h' } ⟨I.ok,I.os,I.bare,⟨λ b o e n hb hx=>?_,λ b o e n hb hx=>?_,I.base.free,λ b o e hx=>?_,I.base.tups,I.base.frzs,I.base.tbls⟩,⟨m,hn.sameBut hs (Nd (cne x c hc)),λ j y v' e1 e2 e3=>?_⟩,λ y c' e=>?_,I.free,I.freeC,λ p hp=>?_,tracked ⟨oc,hoc,I.freeC x c hc⟩ hs,by simpa using I.len⟩ ⟨c,hs,.inr hc⟩
  ·exact(hs.2 b (MS (MN (MJ e) (I.ok.cab x c hfn hc)))).trans (I.base.keep b o e n hb hx)
  ·obtain⟨sl,e1⟩:=I.base.slot b o e n hb hx;exact⟨sl,(hs.2 b (MS (MN (MJ e) (I.ok.cab x c hfn hc)))).trans e1⟩
  ·obtain⟨o',e1⟩:=I.base.there b o e hx;exact⟨o',(hs.2 b (MS (MN (MJ e) (I.ok.cab x c hfn hc)))).trans e1⟩
  ·by_cases hj:j=i
   ·subst hj;rw [hi] at e1;cases e1;rw [O3 hiσ] at e2;cases e2;exact⟨u,r,.inr ⟨.inl hk,c,hc,hc'⟩⟩
   ·rw [Pg (Nd hj)] at e2;obtain⟨u',r',q⟩:=hl j y v' e1 e2 e3;refine⟨u',r',?_⟩
    rcases q with q|⟨k,c',e,z'⟩
    ·exact .inl q
    ·refine .inr ⟨k,c',e,z'.sameBut hs ?_⟩;rintro rfl;exact hj (ll hN e1 (I.ok.inj _ _ _ e hc ▸ hi))
  ·by_cases hcc:c'=c
   ·subst hcc;exact⟨_,hc'⟩
   ·obtain⟨w2,z2⟩:=I.cell y c' e;exact⟨w2,z2.sameBut hs hcc⟩
  ·obtain⟨e,n,ne,nf,d⟩:=I.pin p hp;refine⟨(hs.2 p.1 ?_).trans e,n,ne,nf,d⟩;intro q;rw [q,hoc] at e;have q':oc=p.2:=Nh e;exact d w' (by rw [←q'];exact hocd)
theorem gk{M:Model}{A:Around}{E:Value->Shared->Prop}{i:Nat}{x:Str}{v:V}{u:Value}{Q:Unit->Shared->Prop}(I:Inv X pins σ H s)(hN:X.N.Nodup)(hi:X.N[i]? = some x)(hx:Loc X.env.scope x)(r:bF v u)
  (h:∀ s',Inv X pins (σ.set i (some v)) H s'->Q () s') (hf:X.fn x=true\/X.env.scope.names.lookup x=some .local:=by first|exact .inl rfl|exact .inr rfl|assumption):wpAny M A (storeName X.env x u) Q E s:=
 mK I hN hi hx r (λ s' I' _=>h s' I') hf
theorem Inv.call'{s':Shared}{ch:List Addr}(I:Inv X pins σ H s)(ho:s'.os=s.os)(u:Un (frs X.stack) ch H H' s.heap s'.heap)(hok:HOk X.prog X.w H' s'.heap)(hg:AllBare s'.gens)
  (hch:∀ b∈ch,(b∈X.ex\/X.s₀.heap.objs.size<=b)/\b ≠ X.env.locals/\(∀ x c,X.env.cells.lookup x=some c->c ≠ b)/\∀ p∈X.pn++pins,p.1 ≠ b):Inv X pins σ H' s':=by
 obtain⟨h',g',d',t',o'⟩:=s';have e:o'=s.os:=ho;subst e;exact I.call (g':=g') (t':=t') (d':=d') u hok hg hch
end
abbrev XK:=Value->Option Addr->Hp->Prop
abbrev St:=List (Option V)
abbrev VK:=V->Hp->Prop
abbrev TE:=St->Hp->VK->Prop
abbrev TT:=St->Hp->(Bool->Hp->Prop)->Prop
abbrev TA:=St->Hp->(List V->Hp->Prop)->Prop
structure gd where
 nx:St->Hp->Prop
 rt:VK
 bk:St->Hp->Prop:=λ _ _=>False
 ct:St->Hp->Prop:=λ _ _=>False
abbrev TS:=gd->St->Hp->Prop
def EP(X:Cx)(pins:List (Addr × Obj))(σ:St)(Q:VK)(u:Value)(s':Shared):Prop:=∃ v H',Inv X pins σ H' s'/\bF v u/\Q v H'
def TP(X:Cx)(pins:List (Addr × Obj))(σ:St)(Q:Bool->Hp->Prop)(b:Bool)(s':Shared):Prop:=∃ H',Inv X pins σ H' s'/\Q b H'
def AP(X:Cx)(pins:List (Addr × Obj))(σ:St)(Q:List V->Hp->Prop)(us:List Value)(s':Shared):Prop:=∃ vs H',Inv X pins σ H' s'/\bq vs us/\Q vs H'
def SP(X:Cx)(pins:List (Addr × Obj))(D:gd)(f:Flow)(s':Shared):Prop:=
 match f with
 | .next=>∃ σ' H',Inv X pins σ' H' s'/\D.nx σ' H'
 | .brk=>∃ σ' H',Inv X pins σ' H' s'/\D.bk σ' H'
 | .cont=>∃ σ' H',Inv X pins σ' H' s'/\D.ct σ' H'
 | .ret u=>∃ v σ' H',Inv X pins σ' H' s'/\bF v u/\D.rt v H'
def PE(X:Cx)(e:Expr)(t:TE):Prop:=
 ∀ (pins:List (Addr × Obj)) (s:Shared) (σ:St) (H:Hp) (Q:VK),Inv X pins σ H s->t σ H Q->wpAny (model X.prog X.w) X.A (eval e X.env) (EP X pins σ Q) X.xe s
def PT(X:Cx)(e:Expr)(t:TT):Prop:=
 ∀ (pins:List (Addr × Obj)) (s:Shared) (σ:St) (H:Hp) (Q:Bool->Hp->Prop),Inv X pins σ H s->t σ H Q->wpAny (model X.prog X.w) X.A (isTrue e X.env (eval e X.env)) (TP X pins σ Q) X.xe s
def PW(X:Cx)(e:Expr)(t:TT):Prop:=
 ∀ (whole:Sem Value) (pins:List (Addr × Obj)) (s:Shared) (σ:St) (H:Hp) (Q:Bool->Hp->Prop),Inv X pins σ H s->t σ H Q->wpAny (model X.prog X.w) X.A (isTrue e X.env whole) (TP X pins σ Q) X.xe s
theorem PW.pt{X:Cx}{e:Expr}{t:TT}(h:PW X e t):PT X e t:=h _
def PA(X:Cx)(es:List Expr)(t:TA):Prop:=
 ∀ (pos:Pos) (pins:List (Addr × Obj)) (s:Shared) (σ:St) (H:Hp) (Q:List V->Hp->Prop),Inv X pins σ H s->t σ H Q->wpAny (model X.prog X.w) X.A (spliced (backTo pos (starEach es X.env))) (AP X pins σ Q) X.xe s
def PS(X:Cx)(st:Stmt)(t:TS):Prop:=
 ∀ (pins:List (Addr × Obj)) (s:Shared) (σ:St) (H:Hp) (D:gd),Inv X pins σ H s->t D σ H->wpAny (model X.prog X.w) X.A (exec st X.env) (SP X pins D) X.xe s
def PSs(X:Cx)(st:List Stmt)(t:TS):Prop:=
 ∀ (pins:List (Addr × Obj)) (s:Shared) (σ:St) (H:Hp) (D:gd),Inv X pins σ H s->t D σ H->wpAny (model X.prog X.w) X.A (execs st X.env) (SP X pins D) X.xe s
theorem thn{α:Type}{t:Sem α}{Q Q':α->Shared->Prop}{M:Model}{A:Around}{E:Value->Shared->Prop}{s:Shared}(h:wpAny M A t Q E s)(hQ:∀ a s,Q a s->Q' a s):wpAny M A t Q' E s:=Oq h hQ λ _ _ x=>x
section
variable {X:Cx}
def II(i:Nat):TE:=λ σ H Q=>∃ v,σ[i]? = some (some v)/\Q v H
def tC(v:V):TE:=λ _ H Q=>Q v H
theorem Gs{i:Nat}{x:Str}{pos:Pos}(hN:X.N[i]? = some x)(hv:Vis X.env.scope x)(hd:(x == ("__debug__":Str))=false:=by decide)(hcd:(x == ("__classdict__":Str))=false:=by decide):PE X (.Name x pos) (II i):=by
 intro pins s σ H Q I h;obtain⟨v,e,h⟩:=h;obtain⟨m,hn,hl⟩:=I.loc;obtain⟨u,r,l⟩:=hl i x v hN e hv;have fin:EP X pins σ Q u s:=⟨v,H,I,r,h⟩
 rcases l with ⟨hk,hm⟩|⟨hk,c,hc,hcell⟩
 ·exact wpAny_Name (wpAny_loadName_local I.ok.kind hk hn hm fin) hd
 ·rcases hk with hk|hk
  ·exact wpAny_Name (wpAny_loadName_cell I.ok.kind hk hc hcell fin) hd
  ·exact wpAny_Name (wpAny_loadName_free I.ok.kind hk hc hcell fin hcd) hd
theorem eP{i j pos}:PE X (.Constant (.int i) j pos) (tC (.int i)):=λ _ _ _ H _ I h=>wpAny_Constant_int ⟨.int i,H,I.tok _,⟨_,rfl⟩,h⟩
theorem cO{b j pos}:PE X (.Constant (.bool b) j pos) (tC (.bl b)):=λ _ _ _ H _ I h=>Constant_bool ⟨.bl b,H,I,rfl,h⟩
theorem cR{j pos}:PE X (.Constant .none j pos) (tC .non):=λ _ _ _ H _ I h=>Constant_none ⟨.non,H,I,rfl,h⟩
theorem aW{x j pos}:PE X (.Constant (.str x) j pos) (tC (.str x)):=λ _ _ _ H _ I h=>Calls.Constant_str ⟨.str x,H,I.tok _,⟨_,rfl⟩,h⟩
def Gl(X:Cx)(x:Str):Prop:=X.env.kindOf x=some .globalImplicit
theorem gD{E:Value->Shared->Prop}{pins:List (Addr × Obj)}{s:Shared}{σ:St}{H:Hp}{x:Str}{u:Value}{pos:Pos}{Q:Value->Shared->Prop}(I:Inv X pins σ H s)(hg:Gl X x)(hm:X.mg x=some u)(h:Q u s)
  (hd:(x == ("__debug__":Str))=false:=by decide):wpAny (model X.prog X.w) X.A (eval (.Name x pos) X.env) Q E s:=
 Calls.Name_function_global I.ok.kind hg (Calls.loadGlobal_global (by rw [I.ok.glob];exact I.mod.glob.keeps I.bk) hm h) hd
theorem gj{E:Value->Shared->Prop}{pins:List (Addr × Obj)}{s:Shared}{σ:St}{H:Hp}{x:Str}{u:Value}{pos:Pos}{Q:Value->Shared->Prop}(I:Inv X pins σ H s)(hg:Gl X x)(hm:X.mg x=none)(hv:bootBuiltins x=some u)(h:Q u s)
  (hn:x ≠ "__name__":=by decide) (hd:(x == ("__debug__":Str))=false:=by decide):wpAny (model X.prog X.w) X.A (eval (.Name x pos) X.env) Q E s:=by
 obtain⟨mb,h1,h2⟩:=I.mod.blt;exact Calls.Name_function_global I.ok.kind hg (Calls.loadGlobal_builtin (by rw [I.ok.glob];exact I.mod.glob.keeps I.bk) hm (by rw [I.ok.blt];exact h1.keeps I.bk) ((h2 x hn).trans hv) h) hd
theorem er{x:Str}{v:V}{u:Value}{pos:Pos}(hg:Gl X x)(hm:X.mg x=some u)(r:bF v u)(hd:(x == ("__debug__":Str))=false:=by decide):PE X (.Name x pos) (tC v):=
 λ _ _ _ H _ I h=>gD I hg hm ⟨v,H,I,r,h⟩ hd
theorem CS{x:Str}{v:V}{u:Value}{pos:Pos}(hg:Gl X x)(hm:X.mg x=none)(hv:bootBuiltins x=some u)(r:bF v u)(hn:x ≠ "__name__":=by decide)(hd:(x == ("__debug__":Str))=false:=by decide):PE X (.Name x pos) (tC v):=
 λ _ _ _ H _ I h=>gj I hg hm hv ⟨v,H,I,r,h⟩ hn hd
variable {a b:Expr}{ta tb:TE}{pos:Pos}
def tB(t:TE):TT:=λ σ H Q=>t σ H λ x H1=>∃ c,x=.bl c/\Q c H1
theorem Gf{e:Expr}{t:TE}(h:PE X e t)(he:∀ whole,isTrue e X.env whole=(do let v ←whole;standAt e.pos;holding [v] (truthy v)):=by intro _;rfl):PT X e (tB t):=by
 intro pins s σ H Q I hw;refine isTrue_plain (thn (h pins s σ H _ I hw) λ v s1 ⟨x,H1,I1,r1,q1⟩=>?_) (he _);obtain⟨d,rfl,q⟩:=q1;cases r1;exact Ny ⟨H1,I1,q⟩
variable {tA tB':TT}{rest:List Expr}
def Lb(t u:TT):TT:=λ σ H Q=>t σ H λ c H1=>if c=true then u σ H1 Q else Q false H1
def tOr(t u:TT):TT:=λ σ H Q=>t σ H λ c H1=>if c=true then Q true H1 else u σ H1 Q
def K7(t:TT):TT:=λ σ H Q=>t σ H λ c H1=>Q (!c) H1
theorem CB(ha:PT X a tA):PW X (.BoolOp .And [a] pos) tA:=by
 intro wh pins s σ H Q I h;refine isTrue_and (thn (ha pins s σ H Q I h) λ c s1 e=>?_)
 cases c with
 | true=>exact isTrue_and_nil e
 | false=>exact e
theorem Gd(ha:PT X a tA):PW X (.BoolOp .Or [a] pos) tA:=by
 intro wh pins s σ H Q I h;refine isTrue_or (thn (ha pins s σ H Q I h) λ c s1 e=>?_)
 cases c with
 | false=>exact isTrue_or_nil e
 | true=>exact e
theorem Ge(ha:PT X a tA)(hb:PW X (.BoolOp .And (b::rest) pos) tB'):PW X (.BoolOp .And (a::b::rest) pos) (Lb tA tB'):=by
 intro wh pins s σ H Q I h;refine isTrue_and (thn (ha pins s σ H _ I h) λ c s1 ⟨H1,I1,q1⟩=>?_)
 cases c with
 | true=>exact hb wh pins s1 σ H1 Q I1 q1
 | false=>exact⟨H1,I1,q1⟩
theorem JY(ha:PT X a tA)(hb:PW X (.BoolOp .Or (b::rest) pos) tB'):PW X (.BoolOp .Or (a::b::rest) pos) (tOr tA tB'):=by
 intro wh pins s σ H Q I h;refine isTrue_or (thn (ha pins s σ H _ I h) λ c s1 ⟨H1,I1,q1⟩=>?_)
 cases c with
 | true=>exact⟨H1,I1,q1⟩
 | false=>exact hb wh pins s1 σ H1 Q I1 q1
theorem Gg(ha:PT X a tA):PT X (.UnaryOp .Not a pos) (K7 tA):=by
 intro pins s σ H Q I h;exact isTrue_not (ha pins s σ H (λ c H1=>Q (!c) H1) I h)
def Fo(ta tb:TE):TE:=λ σ H Q=>ta σ H λ x H1=>∃ c,x=.bl c/\if c=true then tb σ H1 Q else Q (.bl false) H1
def K6(ta tb:TE):TE:=λ σ H Q=>ta σ H λ x H1=>∃ c,x=.bl c/\if c=true then Q (.bl true) H1 else tb σ H1 Q
def Fi(ta:TE):TE:=λ σ H Q=>ta σ H λ x H1=>∃ c,x=.bl c/\Q (.bl (!c)) H1
theorem Gu{op}{t:TE}(h:PE X a t):PE X (.BoolOp op [a] pos) t:=λ pins s σ H Q I hw=>BoolOp_one (h pins s σ H Q I hw)
theorem Gw(ha:PE X a ta)(hb:PE X (.BoolOp .And (b::rest) pos) tb):PE X (.BoolOp .And (a::b::rest) pos) (Fo ta tb):=by
 intro pins s σ H Q I h;refine BoolOp_and (thn (ha pins s σ H _ I h) λ v s1 ⟨x,H1,I1,r1,q1⟩=>?_);obtain⟨c,rfl,q1⟩:=q1;cases r1;refine Ny ?_
 cases c with
 | true=>exact hb pins s1 σ H1 Q I1 q1
 | false=>exact⟨.bl false,H1,I1,rfl,q1⟩
theorem JZ(ha:PE X a ta)(hb:PE X (.BoolOp .Or (b::rest) pos) tb):PE X (.BoolOp .Or (a::b::rest) pos) (K6 ta tb):=by
 intro pins s σ H Q I h;refine BoolOp_or (thn (ha pins s σ H _ I h) λ v s1 ⟨x,H1,I1,r1,q1⟩=>?_);obtain⟨c,rfl,q1⟩:=q1;cases r1;refine Ny ?_
 cases c with
 | false=>exact hb pins s1 σ H1 Q I1 q1
 | true=>exact⟨.bl true,H1,I1,rfl,q1⟩
theorem Gv(ha:PE X a ta):PE X (.UnaryOp .Not a pos) (Fi ta):=by
 intro pins s σ H Q I h;refine UnaryOp_ (thn (ha pins s σ H _ I h) λ v s1 ⟨x,H1,I1,r1,q1⟩=>?_);obtain⟨c,rfl,q1⟩:=q1;cases r1;exact not_of (Ny ⟨.bl (!c),H1,I1,rfl,q1⟩)
def tIf(t:TT)(ta tb:TE):TE:=λ σ H Q=>t σ H λ c H1=>if c=true then ta σ H1 Q else tb σ H1 Q
theorem ic{c:Expr}(hc:PT X c tA)(ha:PE X a ta)(hb:PE X b tb):PE X (.IfExp c a b pos) (tIf tA ta tb):=by
 intro pins s σ H Q I h;refine wpAny_IfExp (thn (hc pins s σ H _ I h) λ d s1 ⟨H1,I1,q1⟩=>?_)
 cases d with
 | true=>exact ha pins s1 σ H1 Q I1 q1
 | false=>exact hb pins s1 σ H1 Q I1 q1
end
def SqL(K:W.Frag)(H:Hp)(a:Addr)(xs:List V):Prop:=
 Rd H a (.lst xs) \/
  ∃ (o:Obj) (its:Array Value) (n:Nat),K.lookup a=some o/\o.cls=.type "list" /\ o.dict=none/\o.data=.seq its n/\its.size<=sizeLine/\bq xs its.toList
def SqT(K:W.Frag)(H:Hp)(a:Addr)(xs:List V):Prop:=
 Rd H a (.tup xs) \/
  ∃ (o:Obj) (its:Array Value) (n:Nat),K.lookup a=some o/\o.cls=.type "tuple" /\ o.data=.seq its n/\its.size<=sizeLine/\bq xs its.toList
def Mo:Value->Option V
 | .none=>some .non
 | .bool b=>some (.bl b)
 | .int i _=>some (.int i)
 | .str x _=>some (.str x)
 | .bytes b _=>some (.byt b)
 | .float b _=>some (.flt b)
 | .ref a=>some (.ref a)
 | .type n=>some (.ty n)
 | _=>none
theorem bF.abs{x:V}{u:Value}(r:bF x u):Mo u=some x:=by
 cases x with
 | non=>cases r;rfl
 | bl _=>cases r;rfl
 | int _=>obtain⟨t,rfl⟩:=r;rfl
 | str _=>obtain⟨t,rfl⟩:=r;rfl
 | byt _=>obtain⟨t,rfl⟩:=r;rfl
 | flt _=>obtain⟨t,rfl⟩:=r;rfl
 | ref _=>cases r;rfl
 | ty _=>cases r;rfl
theorem bF.inj{x y:V}{u:Value}(r:bF x u)(q:bF y u):x=y:=Nh (r.abs.symm.trans q.abs)
theorem bq.inj:∀ {xs ys:List V}{us:List Value},bq xs us->bq ys us->xs=ys
 | _,_,_,.nil,.nil=>rfl
 | _,_,_,.cons r t,.cons r' t'=>by rw [r.inj r',bq.inj t t']
section
variable {X:Cx}{pins:List (Addr × Obj)}{σ:St}{H:Hp}{s:Shared}{a:Addr}{xs ys:List V}
theorem SqL.of{K:W.Frag}(h:H a=some (.lst xs)):SqL K H a xs:=.inl (.inl h)
theorem SqT.of{K:W.Frag}(h:H a=some (.tup xs)):SqT K H a xs:=.inl (.inl h)
theorem Inv.list(I:Inv X pins σ H s)(h:SqL X.K H a xs):∃ its:List Value,bq xs its/\PlainL s.heap a its.toArray/\xs.length<=sizeLine:=by
 rcases h with h|⟨o,its,n,hk,hc,hd,hs,hz,r⟩
 ·obtain⟨z,its,n,r,e⟩:=h.ok I.hok;exact⟨its,r,⟨_,n,e,rfl,rfl,rfl⟩,z⟩
 ·refine⟨its.toList,r,⟨o,n,I.kIn a o hk,hc,hd,by simpa using hs⟩,?_⟩;have e:=r.length;simp only [OF] at e;omega
theorem Inv.tuple(I:Inv X pins σ H s)(h:SqT X.K H a xs):∃ its:List Value,bq xs its/\IsTup s.heap a its.toArray/\xs.length<=sizeLine:=by
 rcases h with h|⟨o,its,n,hk,hc,hs,hz,r⟩
 ·obtain⟨z,its,r,p⟩:=h.ok I.hok;exact⟨its,r,p,z⟩
 ·refine⟨its.toList,r,⟨o,I.kIn a o hk,hc,n,by simpa using hs⟩,?_⟩;have e:=r.length;simp only [OF] at e;omega
theorem Inv.list_inj(I:Inv X pins σ H s)(h:SqL X.K H a xs)(h':SqL X.K H a ys):xs=ys:=by
 obtain⟨its,r,⟨o,n,e,_,_,d⟩,_⟩:=I.list h;obtain⟨its',r',⟨o',n',e',_,_,d'⟩,_⟩:=I.list h';rw [e] at e';cases e';rw [d] at d'
 injection d' with d1 _
 have:its=its':=by simpa using NF Array.toList d1
 subst this;exact r.inj r'
theorem Inv.tuple_inj(I:Inv X pins σ H s)(h:SqT X.K H a xs)(h':SqT X.K H a ys):xs=ys:=by
 obtain⟨its,r,⟨o,e,_,n,d⟩,_⟩:=I.tuple h;obtain⟨its',r',⟨o',e',_,n',d'⟩,_⟩:=I.tuple h';rw [e] at e';cases e';rw [d] at d'
 injection d' with d1 _
 have:its=its':=by simpa using NF Array.toList d1
 subst this;exact r.inj r'
end
abbrev Cx.wish(X:Cx)(E:Value->Shared->Prop):Cx:={ X with xe:=E }
abbrev Cx.nox(X:Cx):Cx:=X.wish λ _ _=>False
theorem Cx.Ok.wish{X:Cx}(ok:X.Ok)(E:Value->Shared->Prop):(X.wish E).Ok:=
 ⟨ok.mod,ok.kind,ok.glob,ok.blt,ok.above,ok.inj,ok.has,ok.cab,ok.hd,ok.frames,ok.stk,ok.exf,ok.bs,ok.bsz,ok.noex,ok.exfs,ok.funs,ok.frf⟩
theorem Cx.Ok.unwish{X:Cx}{E:Value->Shared->Prop}(ok:(X.wish E).Ok):X.Ok:=
 ⟨ok.mod,ok.kind,ok.glob,ok.blt,ok.above,ok.inj,ok.has,ok.cab,ok.hd,ok.frames,ok.stk,ok.exf,ok.bs,ok.bsz,ok.noex,ok.exfs,ok.funs,ok.frf⟩
section
variable {X:Cx}{pins:List (Addr × Obj)}{σ:St}{H:Hp}{s:Shared}{E:Value->Shared->Prop}
theorem Inv.wish(I:Inv X pins σ H s)(E:Value->Shared->Prop):Inv (X.wish E) pins σ H s:=⟨I.ok.wish E,I.os,I.bare,I.base,I.loc,I.cell,I.free,I.freeC,I.pin,I.hok,I.len⟩
theorem Inv.unwish(I:Inv (X.wish E) pins σ H s):Inv X pins σ H s:=⟨I.ok.unwish,I.os,I.bare,I.base,I.loc,I.cell,I.free,I.freeC,I.pin,I.hok,I.len⟩
theorem SP.unwish{D:gd}{f:Flow}{s':Shared}(h:SP (X.wish E) pins D f s'):SP X pins D f s':=by
 cases f with
 | next=>obtain⟨σ',H',I,q⟩:=h;exact⟨σ',H',I.unwish,q⟩
 | brk=>obtain⟨σ',H',I,q⟩:=h;exact⟨σ',H',I.unwish,q⟩
 | cont=>obtain⟨σ',H',I,q⟩:=h;exact⟨σ',H',I.unwish,q⟩
 | ret u=>obtain⟨v,σ',H',I,r,q⟩:=h;exact⟨v,σ',H',I.unwish,r,q⟩
theorem PSs.nox{st:List Stmt}{t:TS}(h:PSs X.nox st t):PSs X st t:=λ pins s σ H D I hw=>
 Oq (h pins s σ H D (I.wish _) hw) (λ _ _ q=>q.unwish) λ _ _ z=>False.elim z
end
section
variable {X:Cx}{st:Stmt}{rest:List Stmt}{t u:TS}{e:Expr}{te:TE}{pos:Pos}
def Fj:TS:=λ D σ H=>D.nx σ H
def K3(t u:TS):TS:=λ D σ H=>t { D with nx:=u D } σ H
theorem ah:PSs X [] Fj:=λ _ _ σ H _ I h=>OS ⟨σ,H,I,h⟩
theorem gm(h1:PS X st t)(h2:PSs X rest u):PSs X (st::rest) (K3 t u):=by
 intro pins s σ H D I h;refine wpAny_execs_cons (thn (h1 pins s σ H { D with nx:=u D } I h) λ f s1 q=>?_)
 cases f with
 | next=>
  obtain⟨σ',H',I',q⟩:=q;exact h2 pins s1 σ' H' D I' q
 | ret v=>exact q
 | brk=>exact q
 | cont=>exact q
theorem kC(h1:PS X st t):PSs X [st] t:=by
 intro pins s σ H D I h;refine wpAny_execs_cons (thn (h1 pins s σ H D I h) λ f s1 q=>?_)
 cases f with
 | next=>exact OS q
 | ret v=>exact q
 | brk=>exact q
 | cont=>exact q
theorem Inv.quiet{pins:List (Addr × Obj)}{σ:St}{H:Hp}{s:Shared}(I:Inv X pins σ H s):interactive X.env=false:=by simp [interactive,I.ok.kind]
def Fl(te:TE):TS:=λ D σ H=>te σ H λ _ H1=>D.nx σ H1
theorem CG(he:PE X e te)(hs:swapsWith e none pos.line X.env=pure false:=by rfl):PS X (.Expr e pos) (Fl te):=by
 intro pins s σ H D I h;exact wpAny_Expr_any (thn (he pins s σ H _ I h) λ v s1 ⟨x,H1,I1,r1,q1⟩=>⟨σ,H1,I1,q1⟩) I.quiet hs
def K4(te:TE):TS:=λ D σ H=>te σ H D.rt
theorem u6(he:PE X e te):PS X (.Return (some e) pos) (K4 te):=by
 intro pins s σ H D I h;exact wpAny_Return_some (thn (he pins s σ H _ I h) λ v s1 ⟨x,H1,I1,r1,q1⟩=>⟨x,σ,H1,I1,r1,q1⟩)
def IJ(c:TT)(t u:TS):TS:=λ D σ H=>c σ H λ b H1=>if b=true then t D σ H1 else u D σ H1
theorem BU{c:Expr}{a b:List Stmt}{tc:TT}(hc:PT X c tc)(ha:PSs X a t)(hb:PSs X b u):PS X (.If c a b pos) (IJ tc t u):=by
 intro pins s σ H D I h;refine wpAny_If (thn (hc pins s σ H _ I h) λ d s1 ⟨H1,I1,q1⟩=>?_)
 cases d with
 | true=>exact ha pins s1 σ H1 D I1 q1
 | false=>exact hb pins s1 σ H1 D I1 q1
def FY:TS:=λ _ _ _=>False
theorem ib:PS X st FY:=λ _ _ _ _ _ _ h=>h.elim
end
abbrev TG:=V->St->Hp->(St->Hp->Prop)->Prop
abbrev TGs:=List V->St->Hp->(St->Hp->Prop)->Prop
def PG(X:Cx)(target:Expr)(t:TG):Prop:=
 ∀ (pins:List (Addr × Obj)) (s:Shared) (σ:St) (H:Hp) (v:V) (u:Value) (Q:St->Hp->Prop),Inv X pins σ H s->bF v u->t v σ H Q →
  wpAny (model X.prog X.w) X.A (assign target X.env u) (λ _ s'=>∃ σ' H',Inv X pins σ' H' s'/\Q σ' H') X.xe s
def PGs(X:Cx)(ts:List Expr)(t:TGs):Prop:=
 ∀ (pins:List (Addr × Obj)) (s:Shared) (σ:St) (H:Hp) (vs:List V) (us:List Value) (Q:St->Hp->Prop),Inv X pins σ H s->bq vs us->t vs σ H Q →
  wpAny (model X.prog X.w) X.A (assignInOrder ((assignEach ts X.env).map (·.2)) us) (λ _ s'=>∃ σ' H',Inv X pins σ' H' s'/\Q σ' H') X.xe s
abbrev A8:=V->V->V->Hp->(Hp->Prop)->Prop
def LQ(X:Cx)(t:A8):Prop:=
 ∀ (pins:List (Addr × Obj)) (s:Shared) (σ:St) (H:Hp) (o i v:V) (ov iv u:Value) (Q:Hp->Prop),Inv X pins σ H s->bF o ov->bF i iv->bF v u->t o i v H Q →
  wpAny (model X.prog X.w) X.A (setItem ov iv u) (λ _ s'=>∃ H',Inv X pins σ H' s'/\Q H') X.xe s
section
variable {X:Cx}{pos:Pos}
def cQ(i:Nat):TG:=λ v σ H Q=>Q (σ.set i (some v)) H
theorem vH{i:Nat}{x:Str}(hN:X.N.Nodup)(hi:X.N[i]? = some x)(hx:Loc X.env.scope x)(hf:X.fn x=true\/X.env.scope.names.lookup x=some .local:=by first|exact .inl rfl|exact .inr rfl|assumption):PG X (.Name x pos) (cQ i):=by
 intro pins s σ H v u Q I r h;exact wpAny_assign_Name (gk I hN hi hx r (λ s' I'=>⟨_,H,I',h⟩) hf)
def LO:TGs:=λ vs σ H Q=>vs=[]/\Q σ H
def FO(t:TG)(u:TGs):TGs:=λ vs σ H Q=>∃ v r,vs=v::r/\t v σ H λ σ' H'=>u r σ' H' Q
theorem CK:PGs X [] LO:=by
 intro pins s σ H vs us Q I r h;obtain⟨e,h⟩:=h;subst e;cases r;exact assignInOrder_nil ⟨σ,H,I,h⟩
theorem za{e:Expr}{es:List Expr}{t:TG}{u:TGs}(h1:PG X e t)(h2:PGs X es u)
  (hs:(assignEach (e::es) X.env).map (·.2)=assign e X.env::(assignEach es X.env).map (·.2):=by rfl):PGs X (e::es) (FO t u):=by
 intro pins s σ H vs us Q I r h;obtain⟨v,vr,e1,h⟩:=h;subst e1
 cases r with
 | cons r rr=>
  rw [hs];refine assignInOrder_cons (thn (h1 pins s σ H _ _ _ I r h) λ _ s1 ⟨σ1,H1,I1,q1⟩=>?_);exact h2 pins s1 σ1 H1 _ _ Q I1 rr q1
def LM(K:W.Frag)(n:Nat)(t:TGs):TG:=λ v σ H Q=>∃ a xs,v=.ref a/\SqT K H a xs/\xs.length=n/\t xs σ H Q
theorem Gq{es:List Expr}{k:Nat}{t:TGs}{n:Nat}(hc:X.calm=true)(h:PGs X es t)
  (hn:(assignEach es X.env).length=n:=by rfl) (hst:(assignEach es X.env).findIdx? (·.1)=none:=by rfl):PG X (.Tuple es k pos) (LM X.K n t):=by
 intro pins s σ H v u Q I r hw;obtain⟨a,xs,e1,hq,hl,hw⟩:=hw;subst e1;cases r;obtain⟨its,rv,ht,hz⟩:=I.tuple hq;refine assign_Tuple_tuple (I.ok.hd hc) ht (by simp [hn,←hl,rv.length]) hst λ h' hx=>?_;have I1:Inv X pins σ H { s with heap:=h' }:=I.kept (t':=s.toks) λ b o e=>hx b o (MS (MJ e)) e;exact h pins _ σ H xs _ Q I1 (by simpa using rv) hw
def LN(to ti:TE)(t:A8):TG:=λ v σ H Q=>to σ H λ o H1=>ti σ H1 λ i H2=>t o i v H2 λ H3=>Q σ H3
theorem Bp{o i:Expr}{to ti:TE}{t:A8}(ho:PE X o to)(hi:PE X i ti)(hs:LQ X t)
  (ha:∀ v,assign (.Subscript o i pos) X.env v=(do
   let ov ←holding [v] (eval o X.env)
   let iv ←holding [v,ov] (eval i X.env)
   standAt pos
   holding [v,ov,iv] (setItem ov iv v)
   release [v,ov,iv] []):=by intro _;rfl):PG X (.Subscript o i pos) (LN to ti t):=by
 intro pins s σ H v u Q I r h;rw [ha];refine My (Ob (thn (ho pins s σ H _ I h) λ ov s1 ⟨x,H1,I1,r1,q1⟩=>?_));refine My (Ob (thn (hi pins s1 σ H1 _ I1 q1) λ iv s2 ⟨y,H2,I2,r2,q2⟩=>?_));refine My (Pe (My (Ob (thn (hs pins s2 σ H2 x y v ov iv u _ I2 r1 r2 r q2) λ _ s3 ⟨H3,I3,q3⟩=>?_))));exact wpAny_release ⟨σ,H3,I3,q3⟩
def Jf(te:TE)(g:TG):TS:=λ D σ H=>te σ H λ x H1=>g x σ H1 D.nx
theorem Gk{tg e:Expr}{te:TE}{g:TG}(he:PE X e te)(hg:PG X tg g)(hs:swapsWithSole [tg] e pos.line X.env=pure false:=by rfl)(hw:swappedStores [tg] e X.env=pure none:=by rfl)
  (h1:(assignEach [tg] X.env).map (·.2)=[assign tg X.env]:=by rfl):PS X (.Assign [tg] e pos) (Jf te g):=by
 intro pins s σ H D I h;refine wpAny_Assign_stores (thn (he pins s σ H _ I h) λ v s1 ⟨x,H1,I1,r1,q1⟩=>?_) hs hw;rw [h1];exact thn (hg pins s1 σ H1 x v _ I1 r1 q1) λ _ s2 q=>q
theorem gf{i:Nat}{x:Str}{e:Expr}{te:TE}{pos':Pos}(hN:X.N.Nodup)(hi:X.N[i]? = some x)(hx:Loc X.env.scope x)(he:PE X e te)(hs:swapsWith e (some (.Name x pos')) pos.line X.env=pure false:=by rfl)(hf:X.fn x=true\/X.env.scope.names.lookup x=some .local:=by first|exact .inl rfl|exact .inr rfl|assumption) :
  PS X (.Assign [.Name x pos'] e pos) (Jf te (cQ i)):=by
 intro pins s σ H D I h;refine wpAny_Assign_Name (thn (he pins s σ H _ I h) λ v s1 ⟨y,H1,I1,r1,q1⟩=>?_) hs;exact gk I1 hN hi hx r1 (λ s2 I2=>⟨_,H1,I2,q1⟩) hf
def K5(i j:Nat)(ta:TA):TS:=λ D σ H=>ta σ H λ vs H1=>∃ v w,vs=[v,w]/\D.nx ((σ.set i (some v)).set j (some w)) H1
theorem Gi{i j:Nat}{x y:Str}{a b:Expr}{ta:TA}{px py pt:Pos}{kt k2 pt2}(hc:X.calm=true)(hN:X.N.Nodup)(hi:X.N[i]? = some x)(hj:X.N[j]? = some y)(hij:i ≠ j)
  (hx:X.env.scope.names.lookup x=some .local) (hy:X.env.scope.names.lookup y=some .local) (ha:PA X [a,b] ta)
  (hw:swappedStores [.Tuple [.Name x px,.Name y py] kt pt] (.Tuple [a,b] k2 pt2) X.env=pure (some [x,y]))
  (hs:swapsWithSole [.Tuple [.Name x px,.Name y py] kt pt] (.Tuple [a,b] k2 pt2) pos.line X.env=pure false:=by rfl) :
  PS X (.Assign [.Tuple [.Name x px,.Name y py] kt pt] (.Tuple [a,b] k2 pt2) pos) (K5 i j ta):=by
 intro pins s σ H D I h;rw [exec_Assign_arm];refine My (Pe ?_);rw [hs];refine My (MM ?_);rw [MH (by decide)];refine My (Tuple_ (thn (ha _ pins s σ H _ I h) λ us s1 ⟨vs,H1,I1,r1,q1⟩=>?_));obtain⟨v,w,e1,q1⟩:=q1;subst e1
 obtain⟨u1,u2,rfl,rv,rw'⟩:∃ u1 u2,us=[u1,u2]/\bF v u1/\bF w u2:=by
  cases r1 with
  | cons p q=>
   cases q with
   | cons p' q'=>
    cases q';exact⟨_,_,rfl,p,p'⟩
 refine OA ?_ (by show 2<=sizeLine;decide);have I2:Inv X pins σ H1 { s1 with heap:=s1.heap.push { cls:=.type "tuple",data:=.seq [u1,u2].toArray } }:=I1.kept (t':=s1.toks) λ b o e=>Mz _ e;rw [hw];refine My (MM ?_)
 show wpAny (model X.prog X.w) X.A (do rule "assign.swapped-stores";let items ←unpackItems (.ref s1.heap.objs.size) 2 none;assignInOrder [λ v=>bindName X.env y v,λ v=>bindName X.env x v] items.reverse;pure Flow.next) _ _ _
 refine My (wpAny_rule (My (unpackItems_tuple (items:=#[u1,u2]) (I.ok.hd hc) (IsTup.new s1.heap _) λ h' hx'=>?_)));have I3:=I2.kept (h':=h') (t':=s1.toks) λ b o e=>hx' b o (MS (MJ e)) e
 show wpAny _ _ (assignInOrder [λ v=>bindName X.env y v,λ v=>bindName X.env x v] [u2,u1] >>= λ _=>pure Flow.next) _ _ _
 refine My (assignInOrder_cons (wpAny_bindName (gk I3 hN hj (.inl hy) rw' (λ s2 I4=>?_) (.inr hy))));refine assignInOrder_cons (wpAny_bindName (gk I4 hN hi (.inl hx) rv (λ s3 I5=>assignInOrder_nil (MM ?_)) (.inr hx)));rw [List.set_comm _ _ (Nd hij)] at I5;exact⟨_,H1,I5,q1⟩
end
section
variable {X:Cx}{pos:Pos}
def uK(c:TT)(tb:TS):TS:=λ D σ H=>∃ W:Nat->St->Hp->Prop,(∃ m,W m σ H)/\∀ m σ H,W m σ H →
 c σ H λ b H1=>if b=true then ∃ N:St->Hp->Prop,(∀ σ' H',N σ' H'->∃ m',m' < m/\W m' σ' H')/\tb { D with nx:=N,ct:=N,bk:=D.nx } σ H1 else D.nx σ H1
theorem ia{c:Expr}{body:List Stmt}{tc:TT}{tb:TS}(hp:PassesOwn (model X.prog X.w) X.A X.env X.xe)(hc:PT X c tc)(hb:PSs X body tb):PS X (.While c body [] pos) (uK tc tb):=by
 intro pins s σ H D I h;obtain⟨W,⟨m0,w0⟩,turn⟩:=h;refine wpAny_While (codeAny_whileLoop (λ n s'=>∃ σ' H',Inv X pins σ' H' s'/\W n σ' H') ?_ m0 ⟨σ,H,I,w0⟩);rintro n s1 ⟨σ1,H1,I1,w1⟩;refine N5 hp (thn (hc pins s1 σ1 H1 _ I1 (turn n σ1 H1 w1)) λ b s2 ⟨H2,I2,q2⟩=>?_)
 cases b with
 | true=>
  obtain⟨N,hN,q2⟩:=q2;rw [MI rfl];refine N5 hp (thn (hb pins s2 σ1 H2 _ I2 q2) λ f s3 q3=>?_)
  cases f with
  | next=>
   obtain⟨σ3,H3,I3,n3⟩:=q3;obtain⟨m',hm,w3⟩:=hN σ3 H3 n3;exact⟨m',hm,σ3,H3,I3,w3⟩
  | cont=>
   obtain⟨σ3,H3,I3,n3⟩:=q3;obtain⟨m',hm,w3⟩:=hN σ3 H3 n3;exact⟨m',hm,σ3,H3,I3,w3⟩
  | brk=>exact q3
  | ret v=>exact q3
 | false=>
  rw [MH MQ];exact OS ⟨σ1,H2,I2,q2⟩
end
structure It where
 go:Nat->Hp->Prop
 yld:Nat->Hp->V->Hp->Prop
 stop:Nat->Hp->Prop
def oI(X:Cx)(pins:List (Addr × Obj))(H:Hp)(b:Addr):Prop:=
 H b=none/\b ≠ X.env.locals/\b ∉ X.fs/\(b∈X.ex\/X.s₀.heap.objs.size<=b)/\(∀ x c,X.env.cells.lookup x=some c->c ≠ b)/\∀ p∈X.pn++pins,p.1 ≠ b
theorem Inv.fpOk{X:Cx}{pins:List (Addr × Obj)}{σ:St}{H H':Hp}{s:Shared}{b:Addr}(I:Inv X pins σ H s)(hb:s.heap.objs.size<=b)(hn:H' b=none):oI X pins H' b:=by
 refine⟨hn,OH (MN I.lt hb),I.nofs hb,.inr (Nm I.sz hb),λ x c e z=>?_,λ p hp z=>?_⟩
 ·obtain⟨v,q⟩:=I.cell x c e;exact absurd (MN q.lt (by rw [z];exact hb)) (NV _)
 ·exact absurd (MN (MJ (I.pin p hp).1) (by rw [z];exact hb)) (NV _)
structure yw(P:Program)(w:World)(K:W.Frag)(tg:Expr)(J:It)(fp:List Addr)(it:Addr)(tn:Nat->Heap->Prop):Prop where
 mem:it∈fp
 obj:∀ i h,tn i h->∀ b∈fp,∃ o,h.get? b=some o/\∀ v,o.data ≠ .cell v
 keep:∀ i h h',tn i h->(∀ b∈fp,∀ o,h.get? b=some o->h'.get? b=some o)->tn i h'
 item:∀ (X:Cx),X.prog=P->X.w=w->X.K=K->X.calm=true->∀ (i:Nat) (pins:List (Addr × Obj)) (s:Shared) (σ:St) (H:Hp) (E:Value->Shared->Prop),Inv X pins σ H s->(∀ b∈fp,oI X pins H b)->tn i s.heap->J.go i H →
  wpAny (model P w) X.A (pyNext (.ref it)) (λ r s1=>∃ u,r=some u /\
   wpAny (model P w) X.A (letOwnedTupleGo tg (.ref it) u) (λ _ s2=>∃ x H',Inv X pins σ H' s2/\bF x u/\J.yld i H x H'/\tn (i+1) s2.heap/\∀ b∈fp,H' b=none) E s1) E s
 done:∀ (X:Cx),X.prog=P->X.w=w->X.K=K->X.calm=true->∀ (i:Nat) (pins:List (Addr × Obj)) (s:Shared) (σ:St) (H:Hp) (E:Value->Shared->Prop),Inv X pins σ H s->(∀ b∈fp,oI X pins H b)->tn i s.heap->J.stop i H →
  wpAny (model P w) X.A (pyNext (.ref it)) (λ r s1=>r=none/\Inv X pins σ H s1) E s
 self:∀ (A:Around) (i:Nat) (s:Shared) (Q:Value->Shared->Prop) (E:Value->Shared->Prop),tn i s.heap->Q (.ref it) s->wpAny (model P w) A (pyIter (.ref it)) Q E s
abbrev TI:=St->Hp->(It->Hp->Prop)->Prop
def PIE(X:Cx)(pins:List (Addr × Obj))(σ:St)(tg:Expr)(R:It->Hp->Prop)(itv:Value)(s2:Shared):Prop:=
 ∃ (it:Addr) (fp:List Addr) (tn:Nat->Heap->Prop) (J:It) (H':Hp),itv=.ref it/\Inv X pins σ H' s2/\yw X.prog X.w X.K tg J fp it tn/\tn 0 s2.heap/\(∀ b∈fp,oI X pins H' b)/\R J H'
def PI(X:Cx)(tg iter:Expr)(wi:TI):Prop:=
 ∀ (pins:List (Addr × Obj)) (s:Shared) (σ:St) (H:Hp) (R:It->Hp->Prop),Inv X pins σ H s->wi σ H R →
  wpAny (model X.prog X.w) X.A (eval iter X.env) (λ v s1=>wpAny (model X.prog X.w) X.A (pyIter v) (PIE X pins σ tg R) X.xe s1) X.xe s
theorem yJ{M:Model}{A:Around}{E:Value->Shared->Prop}{s:Shared}{tg:Expr}{it:Addr}{u:Value}{o:Obj}{n:String}{vs:Array Value}{Q:Unit->Shared->Prop}(ho:s.heap.get? it=some o)(hc:o.cls=.type n)(hd:o.data=.fields vs)
    (hn:["enumerate", "zip", "dict_itemiterator", "dict_reverseitemiterator", "odict_iterator", "itertools.zip_longest", "itertools.pairwise"].contains n=false) (hQ:Q () s):wpAny M A (letOwnedTupleGo tg (.ref it) u) Q E s:=by
  unfold letOwnedTupleGo
  cases tg<;>first
    | exact MM hQ
    | (cases u<;>first
        | exact MM hQ
        | (refine My (wpAny_load ho ?_)
           rw [hc,hd]
           show wpAny M A (if (["enumerate", "zip", "dict_itemiterator", "dict_reverseitemiterator", "odict_iterator", "itertools.zip_longest", "itertools.pairwise"].contains n && vs[0]? == some (rawInt _))=true then _ else _) Q E s
           rw [MH (by intro h;rw [hn,Bool.false_and] at h;cases h)];exact MM hQ))
def Itl(K:W.Frag)(a:Addr):It:=
 ⟨λ i H=>∃ xs x,SqL K H a xs/\xs[i]? = some x,λ i H x H'=>H'=H/\∀ xs,SqL K H a xs->xs[i]? = some x,λ i H=>∃ xs,SqL K H a xs/\xs.length<=i⟩
def Itt(K:W.Frag)(a:Addr):It:=
 ⟨λ i H=>∃ xs x,SqT K H a xs/\xs[i]? = some x,λ i H x H'=>H'=H/\∀ xs,SqT K H a xs->xs[i]? = some x,λ i H=>∃ xs,SqT K H a xs/\xs.length<=i⟩
def Itr(lo:Int)(n:Nat):It:=⟨λ i _=>i < n,λ i H x H'=>H'=H/\x=.int (lo+i),λ i _=>n<=i⟩
theorem wo{P:Program}{w:World}{K:W.Frag}{tg:Expr}(a it:Addr):yw P w K tg (Itl K a) [it] it (λ i h=>h.IsListIter it a i) where
 mem:=by simp
 obj:=λ i h st b hb=>by
  have e:b=it:=by simpa using hb
  subst e;obtain⟨o,e,c,d⟩:=st;exact⟨o,e,λ v z=>by rw [d] at z;cases z⟩
 keep:=λ i h h' st k=>st.at λ o e=>k it (by simp) o e
 item:=by
  intro X hP hw hK hc i pins s σ H E I hf st hg;subst hP hw hK;obtain⟨xs,x,hq,hx⟩:=hg;obtain⟨its,rv,p,hz⟩:=I.list hq;obtain⟨u,hu,ru⟩:=rv.get hx;obtain⟨f0,f1,f2,f3,f4,f5⟩:=hf it (by simp);refine wpAny_pyNext_list_item st p.isList (x:=u) (by simpa using hu) λ h' st' sb=>?_;have I1:Inv X pins σ H { s with heap:=h' }:=I.turned (t':=s.toks) (λ b o hb e=>(sb.2 b hb).trans e) f0 f1 f3 f4 f5;obtain⟨o,e,c,d⟩:=id st';exact⟨u,rfl,yJ (s:={ s with heap:=h' }) e c d (by decide) ⟨x,H,I1,ru,⟨rfl,λ ys hy=>by rw [I.list_inj hy hq];exact hx⟩,st',λ b hb=>(hf b hb).1⟩⟩
 done:=by
  intro X hP hw hK hc i pins s σ H E I hf st hg;subst hP hw hK;obtain⟨xs,hq,hx⟩:=hg;obtain⟨its,rv,p,hz⟩:=I.list hq;obtain⟨f0,f1,f2,f3,f4,f5⟩:=hf it (by simp);have hl:=rv.length;exact wpAny_pyNext_list_end (I.ok.hd hc) st p.isList (by simp;omega) λ h' eb=>⟨rfl,I.turned (t':=s.toks) (λ b o hb e=>eb b o hb e) f0 f1 f3 f4 f5⟩
 self:=λ _ _ _ _ _ st h=>wpAny_pyIter_listiter st h
theorem sL{P:Program}{w:World}{K:W.Frag}{tg:Expr}(a it:Addr):yw P w K tg (Itt K a) [it] it (λ i h=>h.IsTupleIter it a i) where
 mem:=by simp
 obj:=λ i h st b hb=>by
  have e:b=it:=by simpa using hb
  subst e;obtain⟨o,e,c,d⟩:=st;exact⟨o,e,λ v z=>by rw [d] at z;cases z⟩
 keep:=λ i h h' st k=>st.at λ o e=>k it (by simp) o e
 item:=by
  intro X hP hw hK hc i pins s σ H E I hf st hg;subst hP hw hK;obtain⟨xs,x,hq,hx⟩:=hg;obtain⟨its,rv,p,hz⟩:=I.tuple hq;obtain⟨u,hu,ru⟩:=rv.get hx;obtain⟨f0,f1,f2,f3,f4,f5⟩:=hf it (by simp);refine wpAny_pyNext_tuple_item st (show s.heap.IsTuple a its.toArray from p) (x:=u) (by simpa using hu) λ h' st' sb=>?_;have I1:Inv X pins σ H { s with heap:=h' }:=I.turned (t':=s.toks) (λ b o hb e=>(sb.2 b hb).trans e) f0 f1 f3 f4 f5;obtain⟨o,e,c,d⟩:=id st';exact⟨u,rfl,yJ (s:={ s with heap:=h' }) e c d (by decide) ⟨x,H,I1,ru,⟨rfl,λ ys hy=>by rw [I.tuple_inj hy hq];exact hx⟩,st',λ b hb=>(hf b hb).1⟩⟩
 done:=by
  intro X hP hw hK hc i pins s σ H E I hf st hg;subst hP hw hK;obtain⟨xs,hq,hx⟩:=hg;obtain⟨its,rv,p,hz⟩:=I.tuple hq;obtain⟨f0,f1,f2,f3,f4,f5⟩:=hf it (by simp);have hl:=rv.length;exact wpAny_pyNext_tuple_end (I.ok.hd hc) st (show s.heap.IsTuple a its.toArray from p) (by simp;omega) λ h' eb=>⟨rfl,I.turned (t':=s.toks) (λ b o hb e=>eb b o hb e) f0 f1 f3 f4 f5⟩
 self:=λ _ _ _ _ _ st h=>wpAny_pyIter_tupleiter st h
theorem sM{P:Program}{w:World}{K:PySem.W.Frag}{tg:Expr}(it:Addr)(lo:Int)(n:Nat):yw P w K tg (Itr lo n) [it] it (λ i h=>IsRangeIter h it (lo+(i:Nat) * 1) ((n:Int) - (i:Nat)) 1) where
 mem:=by simp
 obj:=λ i h st b hb=>by
  have e:b=it:=by simpa using hb
  subst e
  exact⟨_,st,λ v z=>by
   have z':Data.fields _=Data.cell v:=z;cases z'⟩
 keep:=λ i h h' st k=>k it (by simp) _ st
 item:=by
  intro X hP hw hK hc i pins s σ H E I hf st hg;subst hP hw hK;obtain⟨f0,f1,f2,f3,f4,f5⟩:=hf it (by simp);have W:=Walks.range (prog:=X.prog) (w:=X.w) (I.ok.hd hc) it lo 1 n;refine W.item i s _ _ hg st λ v h' tk hv st' kk=>?_;obtain⟨t,rfl⟩:=hv;have I1:Inv X pins σ H { s with heap:=h',toks:=tk }:=I.turned (λ b o hb e=>kk b o (by simpa using hb) e) f0 f1 f3 f4 f5;refine⟨_,rfl,yJ (s:={ s with heap:=h',toks:=tk }) (n := "range_iterator") st' rfl rfl (by decide) ⟨.int (lo+i),H,I1,⟨t,?_⟩,⟨rfl,rfl⟩,st',λ b hb=>(hf b hb).1⟩⟩;rw [OD]
 done:=by
  intro X hP hw hK hc i pins s σ H E I hf st hg;subst hP hw hK;obtain⟨f0,f1,f2,f3,f4,f5⟩:=hf it (by simp);exact wpAny_pyNext_range_end (I.ok.hd hc) st (by have:n<=i:=hg;omega) λ h' eb=>⟨rfl,I.turned (t':=s.toks) (λ b o hb e=>eb b o hb e) f0 f1 f3 f4 f5⟩
 self:=λ _ _ _ _ _ st h=>wpAny_pyIter_rangeiter st h
section
variable {X:Cx}{tg:Expr}
theorem y7{pins:List (Addr × Obj)}{σ:St}{H:Hp}{s:Shared}{R:It->Hp->Prop}{E:Value->Shared->Prop}{lo hi:Int}{t u v:Tok}{tk:Nat}(I:Inv X pins σ H s)(h1:-(2 ^ 62)<=lo)(h2:lo < 2 ^ 62)(h3:-(2 ^ 62)<=hi)(h4:hi < 2 ^ 62)
  (q:R (Itr lo (hi - lo).toNat) H):wpAny (model X.prog X.w) X.A (pyIter (.ref s.heap.objs.size)) (PIE X pins σ tg R) E { s with heap:=s.heap.push { cls:=.type "range",data:=.fields #[.int lo t,.int hi u,.int 1 v] },toks:=tk }:=by
 refine wpAny_pyIter_range (IsRange.new ..) (small_one h1 h2 h3 h4) ?_;have I1:Inv X pins σ H { s with heap:=s.heap.push { cls:=.type "range",data:=.fields #[.int lo t,.int hi u,.int 1 v] },toks:=tk }:=I.kept λ b o e=>Mz _ e
 refine⟨(s.heap.push { cls:=.type "range",data:=.fields #[.int lo t,.int hi u,.int 1 v] }).objs.size,[(s.heap.push { cls:=.type "range",data:=.fields #[.int lo t,.int hi u,.int 1 v] }).objs.size],_,_,H,rfl,
  I1.kept (t':=tk) λ b o e=>Mz _ e,sM _ lo (hi - lo).toNat,?_,λ b hb=>?_,q⟩
 ·have e1:lo+((0:Nat):Int) * 1=lo:=by simp
  have e2:(((hi - lo).toNat:Nat):Int) - ((0:Nat):Int)=Builtin.Range.rangeSize lo hi 1:=by rw [rangeSize_one];split<;>omega
  show IsRangeIter _ _ (lo+((0:Nat):Int) * 1) ((((hi - lo).toNat:Nat):Int) - ((0:Nat):Int)) 1
  rw [e1,e2];exact MO _ rfl
 ·have e:b=(s.heap.push { cls:=.type "range",data:=.fields #[.int lo t,.int hi u,.int 1 v] }).objs.size:=by simpa using hb
  subst e;exact I1.fpOk (MG _) (I1.hok.fresh (MG _))
def FL(ta:TA):TI:=λ σ H R=>ta σ H λ vs H1=>∃ j:Int,vs=[.int j]/\-(2 ^ 62)<=j/\j < 2 ^ 62/\R (Itr 0 j.toNat) H1
theorem dP{a:Expr}{ta:TA}{p pos:Pos}(hg:Gl X "range")(hm:X.mg "range"=none)(ha:PA X [a] ta)(hs:starEach [a] X.env=[(false,eval a X.env)]:=by rfl):PI X tg (.Call (.Name "range" p) [a] [] pos) (FL ta):=by
 intro pins s σ H R I h;refine Call_ (gj I hg hm boot_range (NB (thn (ha pos pins s σ H _ I h) λ us s1 ⟨vs,H1,I1,r1,q1⟩=>?_) hs rfl));obtain⟨j,e,q1,q2,q⟩:=q1;subst e
 cases r1 with
 | cons r rr=>
  cases rr;obtain⟨t,rfl⟩:=r;exact call_range_1 (y7 I1 (by omega) (by omega) q1 q2 (by simpa using q))
def K8(wi:TI)(g:TG)(tb:TS):TS:=λ D σ H=>wi σ H λ J H1=>∃ W:Nat->Nat->St->Hp->Prop,(∃ m,W 0 m σ H1)/\∀ i m σ H,W i m σ H →
 (J.stop i H/\D.nx σ H)\/(J.go i H/\∃ N:St->Hp->Prop,(∀ σ' H',N σ' H'->∃ m',m' < m/\W (i+1) m' σ' H')/\∀ x H',J.yld i H x H'->g x σ H' λ σ2 H2=>tb { D with nx:=N,ct:=N,bk:=D.nx } σ2 H2)
def mC(fp:List Addr)(h:Heap):List (Addr × Obj):=fp.filterMap λ b=>(h.get? b).map λ o=>(b,o)
theorem ft{fp:List Addr}{h:Heap}{b:Addr}{o:Obj}(hb:b∈fp)(e:h.get? b=some o):(b,o)∈mC fp h:=List.mem_filterMap.mpr ⟨b,hb,by rw [e];rfl⟩
theorem wG{fp:List Addr}{h:Heap}{p:Addr × Obj}(hp:p∈mC fp h):p.1∈fp/\h.get? p.1=some p.2:=by
 obtain⟨b,hb,e⟩:=List.mem_filterMap.mp hp
 cases q:h.get? b with
 | none=>rw [q] at e;cases e
 | some o=>
  rw [q] at e;have e':(b,o)=p:=Nh e;subst e';exact⟨hb,q⟩
theorem Inv.pinned{pins:List (Addr × Obj)}{σ:St}{H:Hp}{s:Shared}{fp:List Addr}(I:Inv X pins σ H s)(hf:∀ b∈fp,oI X pins H b)(ho:∀ b∈fp,∃ o,s.heap.get? b=some o/\∀ v,o.data ≠ .cell v):Inv X (pins++mC fp s.heap) σ H s:=
 I.pins_of λ p hp=>(Nj.mp hp).elim (λ z=>I.pin p (Ni _ z)) λ z=>by
  obtain⟨hb,e⟩:=wG z;obtain⟨f0,f1,f2,_⟩:=hf p.1 hb;obtain⟨o,e',d⟩:=ho p.1 hb;rw [e] at e';cases e';exact⟨e,f0,f1,f2,d⟩
theorem Inv.unpinned{pins pl:List (Addr × Obj)}{σ:St}{H:Hp}{s:Shared}(I:Inv X (pins++pl) σ H s):Inv X pins σ H s:=I.pins_of λ p hp=>I.pin p (Ni _ (NQ _ hp))
theorem Gj{iter:Expr}{body:List Stmt}{wi:TI}{g:TG}{tb:TS}{pos:Pos}(hp:PassesOwn (model X.prog X.w) X.A X.env X.xe)(hc:X.calm=true)(hi:PI X tg iter wi)(hg:PG X tg g)(hb:PSs X body tb)
  (hs:∀ x,foldedSetIterable iter X.env x=pure x:=by intro _;rfl):PS X (.For tg iter body [] pos) (K8 wi g tb):=by
 intro pins s σ H D I h;refine wpAny_For (thn (hi pins s σ H _ I h) λ v s1 h1=>thn h1 λ itv s2 h2=>?_) hs;obtain⟨it,fp,tn,J,H2,e,I2,T,st2,f2,W,⟨m0,w0⟩,turn⟩:=h2;subst e;have stat:∀ {H':Hp},(∀ b∈fp,H' b=none)->∀ b∈fp,oI X pins H' b:=λ hn b hb=>⟨hn b hb,(f2 b hb).2⟩;refine codeAny_forLoop_any (λ n s'=>∃ i σ' H',Inv X pins σ' H' s'/\tn i s'.heap/\(∀ b∈fp,H' b=none)/\W i n σ' H') ?_ m0 ⟨0,σ,H2,I2,st2,λ b hb=>(f2 b hb).1,w0⟩;rintro n s3 ⟨i,σ3,H3,I3,st3,fr3,w3⟩
 rcases turn i n σ3 H3 w3 with ⟨stop,qn⟩|⟨go,N,hN,step⟩
 ·refine N5 hp (thn (T.done X rfl rfl rfl hc i pins s3 σ3 H3 X.xe I3 (stat fr3) st3 stop) λ r s4 ⟨hr,I4⟩=>?_);subst hr;exact OS ⟨σ3,H3,I4,qn⟩
 ·refine N5 hp (thn (T.item X rfl rfl rfl hc i pins s3 σ3 H3 X.xe I3 (stat fr3) st3 go) λ r s4 ⟨u,hr,h4⟩=>?_);subst hr;refine N5 hp (thn h4 λ _ s5 ⟨x,H5,I5,r5,y5,st5,fr5⟩=>?_);have I5':=I5.pinned (stat fr5) (T.obj _ _ st5);refine N5 hp (thn (hg _ s5 σ3 H5 x u _ I5' r5 (step x H5 y5)) λ _ s6 ⟨σ6,H6,I6,q6⟩=>?_);refine N5 hp (thn (hb _ s6 σ6 H6 _ I6 q6) λ f s7 q7=>?_)
  have again:∀ {σ7:St} {H7:Hp},Inv X (pins++mC fp s5.heap) σ7 H7 s7->N σ7 H7->∃ m,m < n/\∃ i σ' H',Inv X pins σ' H' s7/\tn i s7.heap/\(∀ b∈fp,H' b=none)/\W i m σ' H':=λ {σ7 H7} I7 n7=>by
   obtain⟨m',hm,w7⟩:=hN σ7 H7 n7;refine⟨m',hm,i+1,σ7,H7,I7.unpinned,T.keep _ _ _ st5 λ b hb o e=>(I7.pin (b,o) (Ni _ (Ni _ (ft hb e)))).1,λ b hb=>?_,w7⟩;obtain⟨o,e,d⟩:=T.obj _ _ st5 b hb;exact(I7.pin (b,o) (Ni _ (Ni _ (ft hb e)))).2.1
  cases f with
  | next=>obtain⟨σ7,H7,I7,n7⟩:=q7;exact again I7 n7
  | cont=>obtain⟨σ7,H7,I7,n7⟩:=q7;exact again I7 n7
  | brk=>obtain⟨σ7,H7,I7,q7⟩:=q7;exact⟨σ7,H7,I7.unpinned,q7⟩
  | ret v=>obtain⟨x7,σ7,H7,I7,r7,q7⟩:=q7;exact⟨x7,σ7,H7,I7.unpinned,r7,q7⟩
end
theorem AD{K:PySem.W.Frag}{a:Addr}{xs:List V}{g:TG}{tb:TS}{D:gd}{σ:St}{H:Hp}(Pv:Nat->St->Hp->Prop)(h0:Pv 0 σ H)(hl:∀ i σ H,i<=xs.length->Pv i σ H->SqL K H a xs)
  (hs:∀ i x σ H,xs[i]? = some x->Pv i σ H->g x σ H λ σ2 H2=>tb { D with nx:=Pv (i+1),ct:=Pv (i+1),bk:=D.nx } σ2 H2) (hd:∀ σ H,Pv xs.length σ H->D.nx σ H) :
  ∃ W:Nat->Nat->St->Hp->Prop,(∃ m,W 0 m σ H)/\∀ i m σ H,W i m σ H →
   ((Itl K a).stop i H/\D.nx σ H)\/((Itl K a).go i H/\∃ N:St->Hp->Prop,(∀ σ' H',N σ' H'->∃ m',m' < m/\W (i+1) m' σ' H')/\∀ x H',(Itl K a).yld i H x H'->g x σ H' λ σ2 H2=>tb { D with nx:=N,ct:=N,bk:=D.nx } σ2 H2):=by
 refine⟨λ i m σ H=>m=xs.length - i/\i<=xs.length/\Pv i σ H,⟨xs.length,by simp,Np _,h0⟩,?_⟩;rintro i m σ H ⟨rfl,hi,p⟩;have q:=hl i σ H hi p
 by_cases hlt:i < xs.length
 ·refine .inr ⟨⟨xs,xs[i],q,by simp [hlt]⟩,Pv (i+1),λ σ' H' p'=>⟨xs.length - (i+1),by omega,rfl,hlt,p'⟩,λ x H' y=>?_⟩;obtain⟨e,y⟩:=y;subst e;exact hs i x σ _ (y xs q) p
 ·have e:i=xs.length:=by omega
  subst e;exact .inl ⟨⟨xs,q,MG _⟩,hd σ H p⟩
theorem xH{lo:Int}{n:Nat}{g:TG}{tb:TS}{D:gd}{σ:St}{H:Hp}(Pv:Nat->St->Hp->Prop)(h0:Pv 0 σ H)
  (hs:∀ i σ H,i < n->Pv i σ H->g (.int (lo+i)) σ H λ σ2 H2=>tb { D with nx:=Pv (i+1),ct:=Pv (i+1),bk:=D.nx } σ2 H2) (hd:∀ σ H,Pv n σ H->D.nx σ H) :
  ∃ W:Nat->Nat->St->Hp->Prop,(∃ m,W 0 m σ H)/\∀ i m σ H,W i m σ H →
   ((Itr lo n).stop i H/\D.nx σ H)\/((Itr lo n).go i H/\∃ N:St->Hp->Prop,(∀ σ' H',N σ' H'->∃ m',m' < m/\W (i+1) m' σ' H')/\∀ x H',(Itr lo n).yld i H x H'->g x σ H' λ σ2 H2=>tb { D with nx:=N,ct:=N,bk:=D.nx } σ2 H2):=by
 refine⟨λ i m σ H=>m=n - i/\i<=n/\Pv i σ H,⟨n,by simp,Np _,h0⟩,?_⟩;rintro i m σ H ⟨rfl,hi,p⟩
 by_cases hlt:i < n
 ·refine .inr ⟨hlt,Pv (i+1),λ σ' H' p'=>⟨n - (i+1),by omega,rfl,hlt,p'⟩,λ x H' y=>?_⟩;obtain⟨e,y⟩:=y;subst e y;exact hs i σ _ hlt p
 ·have e:i=n:=by omega
  subst e;exact .inl ⟨MG _,hd σ H p⟩
abbrev R2:=V->V->Hp->VK->Prop
def OpR(X:Cx)(f:Value->Value->Sem Value)(r:R2):Prop:=
 ∀ (pins:List (Addr × Obj)) (s:Shared) (σ:St) (H:Hp) (x y:V) (v u:Value) (Q:VK),Inv X pins σ H s->bF x v->bF y u->r x y H Q →
  wpAny (model X.prog X.w) X.A (f v u) (EP X pins σ Q) X.xe s
def UnR(X:Cx)(f:Value->Sem Value)(r:V->Hp->VK->Prop):Prop:=
 ∀ (pins:List (Addr × Obj)) (s:Shared) (σ:St) (H:Hp) (x:V) (v:Value) (Q:VK),Inv X pins σ H s->bF x v->r x H Q →
  wpAny (model X.prog X.w) X.A (f v) (EP X pins σ Q) X.xe s
def bD(X:Cx)(f:Value)(r:List V->Hp->VK->Prop):Prop:=
 ∀ (pins:List (Addr × Obj)) (s:Shared) (σ:St) (H:Hp) (xs:List V) (us:List Value) (Q:VK),Inv X pins σ H s->bq xs us->r xs H Q →
  wpAny (model X.prog X.w) X.A (call f us) (EP X pins σ Q) X.xe s
def tOp(r:R2)(ta tb:TE):TE:=λ σ H Q=>ta σ H λ x H1=>tb σ H1 λ y H2=>r x y H2 Q
def tUn(r:V->Hp->VK->Prop)(ta:TE):TE:=λ σ H Q=>ta σ H λ x H1=>r x H1 Q
def rI(C:Int->Int->Prop)(g:Int->Int->V):R2:=λ x y H Q=>∃ i j,x=.int i/\y=.int j/\C i j/\Q (g i j) H
def rI0(g:Int->Int->V):R2:=λ x y H Q=>∃ i j,x=.int i/\y=.int j/\Q (g i j) H
def rU(g:Int->V):V->Hp->VK->Prop:=λ x H Q=>∃ i,x=.int i/\Q (g i) H
section
variable {X:Cx}{a b c:Expr}{ta tb tc:TE}{pos:Pos}
theorem JP(ha:PE X a ta)(hb:PE X b tb){pins:List (Addr × Obj)}{s:Shared}{σ:St}{H:Hp}{R:V->V->Hp->Prop}(I:Inv X pins σ H s)
  (h:ta σ H λ x H1=>tb σ H1 λ y H2=>R x y H2) {Q:Value->Shared->Prop} {f:Value->Value->Sem Value}
  (hf:∀ v u s2 x y H2,Inv X pins σ H2 s2->bF x v->bF y u->R x y H2->wpAny (model X.prog X.w) X.A (f v u) Q X.xe s2) :
  wpAny (model X.prog X.w) X.A (eval a X.env) (λ v s₁=>wpAny (model X.prog X.w) X.A (eval b X.env) (λ u s₂=>wpAny (model X.prog X.w) X.A (f v u) Q X.xe s₂) X.xe s₁) X.xe s:=by
 refine thn (ha pins s σ H _ I h) λ v s1 ⟨x,H1,I1,r1,q1⟩=>?_;refine thn (hb pins s1 σ H1 _ I1 q1) λ u s2 ⟨y,H2,I2,r2,q2⟩=>?_;exact hf v u s2 x y H2 I2 r1 r2 q2
theorem eO{op:Operator}{r:R2}(ho:OpR X (binaryOp op) r)(ha:PE X a ta)(hb:PE X b tb):PE X (.BinOp a op b pos) (tOp r ta tb):=by
 intro pins s σ H Q I h;exact wpAny_BinOp (JP ha hb I h λ v u s2 x y H2 I2 rx ry q=>ho pins s2 σ H2 x y v u Q I2 rx ry q)
theorem BV{op:UnaryOp}{r:V->Hp->VK->Prop}(ho:UnR X (unaryOp op) r)(ha:PE X a ta):PE X (.UnaryOp op a pos) (tUn r ta):=by
 intro pins s σ H Q I h;exact UnaryOp_ (thn (ha pins s σ H _ I h) λ v s1 ⟨x,H1,I1,r1,q1⟩=>ho pins s1 σ H1 x v Q I1 r1 q1)
theorem opI{f:Value->Value->Sem Value}{C:Int->Int->Prop}{g:Int->Int->Int}
  (rule:∀ (i j:Int) (t u:Tok) (s:Shared) (Q:Value->Shared->Prop) (E:Value->Shared->Prop),C i j->Q (.int (g i j) s.toks) { s with toks:=s.toks+1 }->wpAny (model X.prog X.w) X.A (f (.int i t) (.int j u)) Q E s) :
  OpR X f (rI C λ i j=>.int (g i j)):=by
 intro pins s σ H x y v u Q I rx ry h;obtain⟨i,j,rfl,rfl,hc,q⟩:=h;obtain⟨t,rfl⟩:=rx;obtain⟨t',rfl⟩:=ry;exact rule i j t t' s _ _ hc ⟨.int (g i j),H,I.tok _,⟨_,rfl⟩,q⟩
theorem Lj{f:Value->Value->Sem Value}{g:Int->Int->Int}
  (rule:∀ (i j:Int) (t u:Tok) (s:Shared) (Q:Value->Shared->Prop) (E:Value->Shared->Prop),Q (.int (g i j) s.toks) { s with toks:=s.toks+1 }->wpAny (model X.prog X.w) X.A (f (.int i t) (.int j u)) Q E s) :
  OpR X f (rI0 λ i j=>.int (g i j)):=by
 intro pins s σ H x y v u Q I rx ry h;obtain⟨i,j,rfl,rfl,q⟩:=h;obtain⟨t,rfl⟩:=rx;obtain⟨t',rfl⟩:=ry;exact rule i j t t' s _ _ ⟨.int (g i j),H,I.tok _,⟨_,rfl⟩,q⟩
theorem IM{f:Value->Value->Sem Value}{g:Int->Int->Bool}
  (rule:∀ (i j:Int) (t u:Tok) (s:Shared) (Q:Value->Shared->Prop) (E:Value->Shared->Prop),Q (.bool (g i j)) s->wpAny (model X.prog X.w) X.A (f (.int i t) (.int j u)) Q E s) :
  OpR X f (rI0 λ i j=>.bl (g i j)):=by
 intro pins s σ H x y v u Q I rx ry h;obtain⟨i,j,rfl,rfl,q⟩:=h;obtain⟨t,rfl⟩:=rx;obtain⟨t',rfl⟩:=ry;exact rule i j t t' s _ _ ⟨.bl (g i j),H,I,rfl,q⟩
def JS(i j:Int):Prop:=0 < j/\j < 1073741824
def JR(i j:Int):Prop:=0<=j/\j<=1000000/\i.natAbs < 2 ^ 64
def iE(i j:Int):Prop:=(-(2 ^ 64) < i/\i < 2 ^ 64)\/(-(2 ^ 64) < j/\j < 2 ^ 64)
theorem iE.ok{i j:Int}(h:iE i j):IntMulOk i j:=by
 rcases h with ⟨h1,h2⟩|⟨h1,h2⟩
 ·exact .of_left (intBits_le_64 h1 h2)
 ·exact .of_right (intBits_le_64 h1 h2)
theorem qy:OpR X (binaryOp .Add) (rI0 λ i j=>.int (i+j)):=Lj λ _ _ _ _ _ _ _ q=>add_int q
theorem Gx:OpR X (binaryOp .Sub) (rI0 λ i j=>.int (i - j)):=Lj λ _ _ _ _ _ _ _ q=>sub_int q
theorem gS:OpR X (binaryOp .Mult) (rI iE λ i j=>.int (i * j)):=opI λ _ _ _ _ _ _ _ hc q=>mul_int q hc.ok
theorem C7:OpR X (binaryOp .FloorDiv) (rI JS λ i j=>.int (i / j)):=opI λ i j _ _ _ _ _ hc q=>by
 have h1:(0:Int) < j:=hc.1;have h2:j < 1073741824:=hc.2;exact floordiv_int (by omega) (by rw [ND i (by omega)];exact q) (.inl (PyProof.noPylong_small (by omega)))
theorem iI:OpR X (binaryOp .Mod) (rI (λ _ j=>0 < j) λ i j=>.int (i % j)):=opI λ i j _ _ _ _ _ hc q=>by
 have h1:(0:Int) < j:=hc;exact mod_int' (by omega) (by rw [Int.fmod_eq_emod_of_nonneg i (by omega)];exact q)
theorem Gy:OpR X (binaryOp .Pow) (rI JR λ i j=>.int (i ^ j.toNat)):=opI λ _ _ _ _ _ _ _ hc q=>pow_int_small hc.1 hc.2.1 hc.2.2 q
theorem unI{f:Value->Sem Value}{g:Int->Int}
  (rule:∀ (i:Int) (t:Tok) (s:Shared) (Q:Value->Shared->Prop) (E:Value->Shared->Prop),Q (.int (g i) s.toks) { s with toks:=s.toks+1 }->wpAny (model X.prog X.w) X.A (f (.int i t)) Q E s) :
  UnR X f (rU λ i=>.int (g i)):=by
 intro pins s σ H x v Q I rx h;obtain⟨i,rfl,q⟩:=h;obtain⟨t,rfl⟩:=rx;exact rule i t s _ _ ⟨.int (g i),H,I.tok _,⟨_,rfl⟩,q⟩
theorem FV:UnR X (unaryOp .USub) (rU λ i=>.int (-i)):=unI λ _ _ _ _ _ q=>neg_int q
end
def E4:V->V->Bool
 | .non,.non=>true | .non,.int _=>true | .int _,.non=>true | .non,.bl _=>true | .bl _,.non=>true | .non,.str _=>true | .str _,.non=>true
 | .int _,.int _=>true | .bl _,.bl _=>true | .str _,.str _=>true | .byt _,.byt _=>true
 | .int _,.str _=>true | .str _,.int _=>true | .bl _,.str _=>true | .str _,.bl _=>true
 | _,_=>false
def rEq:R2:=λ x y H Q=>E4 x y=true/\Q (.bl (decide (x=y))) H
def rNe:R2:=λ x y H Q=>E4 x y=true/\Q (.bl (!decide (x=y))) H
theorem vY{i j:Int}:decide (V.int i=V.int j)=(i == j):=by
 rw [OE];simp
theorem BB{i j:Bool}:decide (V.bl i=V.bl j)=(i == j):=by
 rw [OE];simp
theorem vX{i j:Str}:decide (V.str i=V.str j)=(i == j):=by
 rw [OE];simp
theorem vZ{i j:Array UInt8}:decide (V.byt i=V.byt j)=(i.toList == j.toList):=by
 rw [OE];cases i;cases j;simp
section
variable {X:Cx}{a b c:Expr}{ta tb tc:TE}{pos:Pos}
theorem aO{pins:List (Addr × Obj)}{σ:St}{H:Hp}{s:Shared}{Q:VK}{k k':Bool}(I:Inv X pins σ H s)(q:Q (.bl k) H)(e:k=k'):EP X pins σ Q (.bool k') s:=by
 subst e;exact⟨.bl k,H,I,rfl,q⟩
theorem J5:OpR X (compareOp .Eq) rEq:=by
 intro pins s σ H x y v u Q I rx ry h;obtain⟨hs,q⟩:=h
 cases x with
 | non=>
  cases rx
  cases y with
  | non=>cases ry;exact PySem.EqNone.eq_none_none (aO I q (by simp))
  | bl j=>cases ry;exact PySem.EqNone.eq_none_bool (aO I q (by simp))
  | int j=>obtain⟨t',rfl⟩:=ry;exact PySem.EqNone.eq_none_int (aO I q (by simp))
  | str j=>obtain⟨t',rfl⟩:=ry;exact PySem.EqNone.eq_none_str (aO I q (by simp))
  | _=>exact absurd (show false=true from hs) MQ
 | bl i=>
  cases rx
  cases y with
  | non=>cases ry;exact PySem.EqNone.eq_bool_none (aO I q (by simp))
  | bl j=>cases ry;exact eq_bool (aO I q BB)
  | str j=>obtain⟨t',rfl⟩:=ry;exact PySem.EqMixed.eq_bool_str (aO I q (by simp))
  | _=>exact absurd (show false=true from hs) MQ
 | int i=>
  obtain⟨t,rfl⟩:=rx
  cases y with
  | non=>cases ry;exact PySem.EqNone.eq_int_none (aO I q (by simp))
  | int j=>obtain⟨t',rfl⟩:=ry;exact eq_int (aO I q vY)
  | str j=>obtain⟨t',rfl⟩:=ry;exact PySem.EqMixed.eq_int_str (aO I q (by simp))
  | _=>exact absurd (show false=true from hs) MQ
 | str i=>
  obtain⟨t,rfl⟩:=rx
  cases y with
  | non=>cases ry;exact PySem.EqNone.eq_str_none (aO I q (by simp))
  | bl j=>cases ry;exact PySem.EqMixed.eq_str_bool (aO I q (by simp))
  | int j=>obtain⟨t',rfl⟩:=ry;exact PySem.EqMixed.eq_str_int (aO I q (by simp))
  | str j=>obtain⟨t',rfl⟩:=ry;exact eq_str (aO I q vX)
  | _=>exact absurd (show false=true from hs) MQ
 | byt i=>
  obtain⟨t,rfl⟩:=rx
  cases y with
  | byt j=>obtain⟨t',rfl⟩:=ry;exact W.eq_bytes (aO I q vZ)
  | _=>exact absurd (show false=true from hs) MQ
 | _=>cases y<;>exact absurd (show false=true from hs) MQ
theorem J1:OpR X (compareOp .NotEq) rNe:=by
 intro pins s σ H x y v u Q I rx ry h;obtain⟨hs,q⟩:=h
 cases x with
 | non=>
  cases rx
  cases y with
  | non=>cases ry;exact PySem.EqNone.ne_none_none (aO I q (by simp))
  | bl j=>cases ry;exact PySem.EqNone.ne_none_bool (aO I q (by simp))
  | int j=>obtain⟨t',rfl⟩:=ry;exact PySem.EqNone.ne_none_int (aO I q (by simp))
  | str j=>obtain⟨t',rfl⟩:=ry;exact PySem.EqNone.ne_none_str (aO I q (by simp))
  | _=>exact absurd (show false=true from hs) MQ
 | bl i=>
  cases rx
  cases y with
  | non=>cases ry;exact PySem.EqNone.ne_bool_none (aO I q (by simp))
  | bl j=>cases ry;exact ne_bool (aO I q (NF not BB))
  | str j=>obtain⟨t',rfl⟩:=ry;exact PySem.EqMixed.ne_bool_str (aO I q (by simp))
  | _=>exact absurd (show false=true from hs) MQ
 | int i=>
  obtain⟨t,rfl⟩:=rx
  cases y with
  | non=>cases ry;exact PySem.EqNone.ne_int_none (aO I q (by simp))
  | int j=>obtain⟨t',rfl⟩:=ry;exact ne_int (aO I q (NF not vY))
  | str j=>obtain⟨t',rfl⟩:=ry;exact PySem.EqMixed.ne_int_str (aO I q (by simp))
  | _=>exact absurd (show false=true from hs) MQ
 | str i=>
  obtain⟨t,rfl⟩:=rx
  cases y with
  | non=>cases ry;exact PySem.EqNone.ne_str_none (aO I q (by simp))
  | bl j=>cases ry;exact PySem.EqMixed.ne_str_bool (aO I q (by simp))
  | int j=>obtain⟨t',rfl⟩:=ry;exact PySem.EqMixed.ne_str_int (aO I q (by simp))
  | str j=>obtain⟨t',rfl⟩:=ry;exact ne_str (aO I q (NF not vX))
  | _=>exact absurd (show false=true from hs) MQ
 | byt i=>
  obtain⟨t,rfl⟩:=rx
  cases y with
  | byt j=>obtain⟨t',rfl⟩:=ry;exact W.ne_bytes (aO I q (NF not vZ))
  | _=>exact absurd (show false=true from hs) MQ
 | _=>cases y<;>exact absurd (show false=true from hs) MQ
theorem Fx:OpR X (compareOp .Lt) (rI0 λ i j=>.bl (decide (i < j))):=IM λ _ _ _ _ _ _ _ q=>lt_int q
theorem J2:OpR X (compareOp .LtE) (rI0 λ i j=>.bl (decide (i<=j))):=IM λ _ _ _ _ _ _ _ q=>le_int q
theorem Fy:OpR X (compareOp .Gt) (rI0 λ i j=>.bl (decide (j < i))):=IM λ _ _ _ _ _ _ _ q=>gt_int q
theorem J4:OpR X (compareOp .GtE) (rI0 λ i j=>.bl (decide (j<=i))):=IM λ _ _ _ _ _ _ _ q=>ge_int q
theorem GA:OpR X (compareOp .Is) (λ x y H Q=>y=.non/\Q (.bl (decide (x=.non))) H):=by
 intro pins s σ H x y v u Q I rx ry h;obtain⟨rfl,q⟩:=h;cases ry;refine is_none_gen (aO I q ?_)
 cases x<;>first
  | (cases rx;rfl)
  | (obtain⟨t,rfl⟩:=rx;rfl)
theorem CZ:OpR X (compareOp .IsNot) (λ x y H Q=>y=.non/\Q (.bl (!decide (x=.non))) H):=by
 intro pins s σ H x y v u Q I rx ry h;obtain⟨rfl,q⟩:=h;cases ry;refine isnot_none_gen (aO I q ?_)
 cases x<;>first
  | (cases rx;rfl)
  | (obtain⟨t,rfl⟩:=rx;rfl)
theorem OpR.or{f:Value->Value->Sem Value}{r r':R2}(h:OpR X f r)(h':OpR X f r'):OpR X f (λ x y H Q=>r x y H Q\/r' x y H Q):=by
 intro pins s σ H x y v u Q I rx ry q
 rcases q with q|q
 ·exact h pins s σ H x y v u Q I rx ry q
 ·exact h' pins s σ H x y v u Q I rx ry q
theorem ae(b:Expr){op:CmpOp}(h:op ≠ .In:=by decide)(h2:op ≠ .NotIn:=by decide):behindInMarks op b=false:=by
 have e1:(op == CmpOp.In)=false:=by cases op<;>first|rfl|exact absurd rfl h
 have e2:(op == CmpOp.NotIn)=false:=by cases op<;>first|rfl|exact absurd rfl h2
 cases b<;>simp [behindInMarks,e1,e2]
theorem CQ{op:CmpOp}{r:R2}(ho:OpR X (compareOp op) r)(ha:PE X a ta)(hb:PE X b tb)(hm:behindInMarks op b=false):PE X (.Compare a [op] [b] pos) (tOp r ta tb):=by
 intro pins s σ H Q I h;exact wpAny_Compare1 (JP ha hb I h λ v u s2 x y H2 I2 rx ry q=>ho pins s2 σ H2 x y v u Q I2 rx ry q) hm
def yy(t:TE):TT:=λ σ H Q=>t σ H λ x H'=>∃ k,x=.bl k/\Q k H'
theorem pD{op:CmpOp}{r:R2}(ho:OpR X (compareOp op) r)(ha:PE X a ta)(hb:PE X b tb)(hm:behindInMarks op b=false):PT X (.Compare a [op] [b] pos) (yy (tOp r ta tb)):=by
 intro pins s σ H Q I h
 refine wpAny_isTrue_Compare1 (thn (ha pins s σ H _ I h) λ v s1 ⟨x,H1,I1,r1,q1⟩=>thn (hb pins s1 σ H1 _ I1 q1) λ u s2 ⟨y,H2,I2,r2,q2⟩=>
  thn (ho pins s2 σ H2 x y v u _ I2 r1 r2 q2) λ c s3 ⟨z,H3,I3,r3,k,e,q3⟩=>?_) hm
 subst e;cases r3;exact Ny ⟨H3,I3,q3⟩
def uL(r r':R2)(ta tb tc:TE):TE:=λ σ H Q=>ta σ H λ x H1=>tb σ H1 λ y H2=>r x y H2 λ z H3=>∃ k,z=.bl k /\
 (if k=true then tc σ H3 λ w' H4=>r' y w' H4 Q else Q (.bl false) H3)
theorem zk{op op':CmpOp}{r r':R2}(ho:OpR X (compareOp op) r)(ho':OpR X (compareOp op') r')(ha:PE X a ta)(hb:PE X b tb)(hc:PE X c tc)
  (hm:lastMarks [op,op'] [b,c]=false:=by with_unfolding_all rfl):PE X (.Compare a [op,op'] [b,c] pos) (uL r r' ta tb tc):=by
 intro pins s σ H Q I h
 refine Compare_chain (thn (ha pins s σ H _ I h) λ v s1 ⟨x,H1,I1,r1,q1⟩=>chain_link (thn (hb pins s1 σ H1 _ I1 q1) λ u s2 ⟨y,H2,I2,r2,q2⟩=>
  thn (ho pins s2 σ H2 x y v u _ I2 r1 r2 q2) λ d s3 ⟨z,H3,I3,r3,k,e,q3⟩=>?_)) hm
 subst e;cases r3;refine Ny ?_
 cases k with
 | false=>exact ite_ff ⟨.bl false,H3,I3,rfl,q3⟩
 | true=>exact ite_tt (chain_last (thn (hc pins s3 σ H3 _ I3 q3) λ w' s4 ⟨z',H4,I4,r4,q4⟩=>ho' pins s4 σ H4 y z' u w' Q I4 r2 r4 q4))
theorem y9{op op':CmpOp}{r r':R2}(ho:OpR X (compareOp op) r)(ho':OpR X (compareOp op') r')(ha:PE X a ta)(hb:PE X b tb)(hc:PE X c tc)
  (hm:lastMarks [op,op'] [b,c]=false:=by with_unfolding_all rfl):PT X (.Compare a [op,op'] [b,c] pos) (yy (uL r r' ta tb tc)):=by
 intro pins s σ H Q I h
 refine isTrue_chain (thn (ha pins s σ H _ I h) λ v s1 ⟨x,H1,I1,r1,q1⟩=>test_link (thn (hb pins s1 σ H1 _ I1 q1) λ u s2 ⟨y,H2,I2,r2,q2⟩=>
  thn (ho pins s2 σ H2 x y v u _ I2 r1 r2 q2) λ d s3 ⟨z,H3,I3,r3,k,e,q3⟩=>?_)) hm
 subst e;cases r3;refine Ny ?_
 cases k with
 | false=>
  obtain⟨k',e',q'⟩:=q3;cases e';exact ite_ff ⟨H3,I3,q'⟩
 | true=>
  refine ite_tt (test_last (thn (hc pins s3 σ H3 _ I3 q3) λ w' s4 ⟨z',H4,I4,r4,q4⟩=>thn (ho' pins s4 σ H4 y z' u w' _ I4 r2 r4 q4) λ d' s5 ⟨z2,H5,I5,r5,k2,e2,q5⟩=>?_));subst e2;cases r5;exact Ny ⟨H5,I5,q5⟩
theorem mD:(sizeLine:Nat) < 2 ^ 63:=by rw [sizeLine_eq];decide
theorem oJ{x:V}{us:List Value}(r:bq [x] us):∃ u,us=[u]/\bF x u:=by
 cases r with
 | cons r1 r2=>cases r2;exact⟨_,rfl,r1⟩
theorem yx{x y:V}{us:List Value}(r:bq [x,y] us):∃ u w',us=[u,w']/\bF x u/\bF y w':=by
 cases r with
 | cons r1 r2=>
  cases r2 with
  | cons r3 r4=>cases r4;exact⟨_,_,rfl,r1,r3⟩
theorem AS:bD X (.builtin "abs") (λ xs H Q=>∃ i,xs=[.int i]/\Q (.int (if i < 0 then -i else i)) H):=by
 intro pins s σ H xs us Q I r h;obtain⟨i,rfl,q⟩:=h;obtain⟨u,rfl,t,rfl⟩:=oJ r;exact call_abs_int λ u tk=>⟨.int (if i < 0 then -i else i),H,I.tok _,⟨_,rfl⟩,q⟩
theorem xV(hc:X.calm=true):bD X (.builtin "max") (λ xs H Q=>∃ i j,xs=[.int i,.int j]/\Q (.int (if j > i then j else i)) H):=by
 intro pins s σ H xs us Q I r h;obtain⟨i,j,rfl,q⟩:=h;obtain⟨u,w',rfl,⟨t,rfl⟩,⟨t',rfl⟩⟩:=yx r;refine max_two_ints (I.ok.hd hc) λ h' tk k=>⟨_,H,I.kept k,?_,q⟩
 by_cases hj:j > i
 ·rw [MI hj,MI hj];exact⟨_,rfl⟩
 ·rw [MH hj,MH hj];exact⟨_,rfl⟩
theorem xU(hc:X.calm=true):bD X (.builtin "min") (λ xs H Q=>∃ i j,xs=[.int i,.int j]/\Q (.int (if j < i then j else i)) H):=by
 intro pins s σ H xs us Q I r h;obtain⟨i,j,rfl,q⟩:=h;obtain⟨u,w',rfl,⟨t,rfl⟩,⟨t',rfl⟩⟩:=yx r;refine min_two_ints (I.ok.hd hc) λ h' tk k=>⟨_,H,I.kept k,?_,q⟩
 by_cases hj:j < i
 ·rw [MI hj,MI hj];exact⟨_,rfl⟩
 ·rw [MH hj,MH hj];exact⟨_,rfl⟩
theorem xX:bD X (.type "int") (λ xs H Q=>(∃ i,xs=[.int i]/\Q (.int i) H)\/∃ k,xs=[.bl k]/\Q (.int (if k then 1 else 0)) H):=by
 intro pins s σ H xs us Q I r h
 rcases h with ⟨i,rfl,q⟩|⟨k,rfl,q⟩
 ·obtain⟨u,rfl,t,rfl⟩:=oJ r;exact call_int_int ⟨.int i,H,I,⟨_,rfl⟩,q⟩
 ·obtain⟨u,rfl,r1⟩:=oJ r;cases r1;exact call_int_bool ⟨.int (if k then 1 else 0),H,I.tok _,⟨_,rfl⟩,q⟩
end
structure BM(h:Heap)(x dx C:Addr)(mA:Str->Option Value):Prop where
 obj:h.get? x=some (W.instObj C dx)
 ns:h.Ns1 dx mA
 ne:dx ≠ x
theorem mW{h:Heap}{dx:Addr}{mA:Str->Option Value}(n:h.Ns1 dx mA):∃ od,h.get? dx=some od/\∀ name,W.lookIn name od=some (mA name):=by
 obtain⟨o,es,ep,ho,hd,hk,_,hm⟩:=n;refine⟨o,ho,λ name=>?_⟩;have e:=hm name;unfold nsFind findBy at e;rw [←Array.find?_toList] at e;unfold W.lookIn;rw [hd];dsimp only;split
 ·rename_i y q;rw [q] at e;exact NF some e
 ·rename_i q;rw [q] at e
  have a:es.toList.any (·.refKey)=false:=by
   rw [List.any_eq_false];intro y hy;obtain⟨z,t,hkey⟩:=hk y (Array.mem_toList_iff.mp hy);simp [DictEntry.refKey,hkey]
  have a':¬ es.toList.any (·.refKey)=true:=by rw [a];exact MQ
  rw [MH a'];exact NF some e
theorem BM.look{h:Heap}{x dx C:Addr}{mA:Str->Option Value}(I:BM h x dx C mA):∃ od,W.InstAt h x (W.instObj C dx) C (some od)/\∀ name,W.lookIn name od=some (mA name):=
 let ⟨od,ho,hl⟩:=mW I.ns
 ⟨od,⟨I.obj,rfl,rfl,ho⟩,hl⟩
section
variable {prog:Program}{w:World}{A:Around}{E:Value->Shared->Prop}{s:Shared}{K:PySem.W.Frag}{x dx C f:Addr}{mA:Str->Option Value}{name:Str}{v:Value}
theorem Em{expr:Bool}{Q:Value->Shared->Prop}(X:K.In s.heap)(I:BM s.heap x dx C mA)(hg:W.plainGet K C name=true)(hh:W.hasDictIn K C=true)
  (ha:W.findIn K (.ref C) name=some none) (hv:mA name=some v) (hv':W.handedIn v=true) (h:Q v { s with toks:=s.toks+1 }) :
  wpAny (model prog w) A (getAttr (.ref x) name expr) Q E s:=by
 obtain⟨od,J,hl⟩:=I.look;exact W.get_value X J (W.plainGet_of hg).1 (W.findObj_own hh ha rfl (by rw [hl,hv])) hv' h
theorem Au{pl:Sem Bool}{Q:Value × List Value->Shared->Prop}(X:K.In s.heap)(I:BM s.heap x dx C mA)(hg:W.plainGet K C name=true)
  (hf:W.findIn K (.ref C) name=some (some (.ref f))) (ht:W.isFn K (.ref f)=true) (hv:mA name=none) (h:Q (.ref f,[.ref x]) s) :
  wpAny (model prog w) A (getMethod (.ref x) name pl) Q E s:=by
 obtain⟨od,J,hl⟩:=I.look;exact W.method_fn X J (W.plainGet_of hg).1 (W.plainGet_of hg).2 hf (Ou.mp ht) (by show (W.lookIn name od).map (·.isSome)=some false;rw [hl,hv];rfl) h
theorem Cz{ns:List Str}{Q:Unit->Shared->Prop}(X:K.In s.heap)(I:BM s.heap x dx C mA)
  (hs:W.findIn K (.ref C) "__setattr__"=some (some (.builtin "object.__setattr__"))) (hp:W.plainOver K C=true) (ht:W.takerIn K C name=some none) (hh:W.hasDictIn K C=true)
  (hw:PySem.Within mA ns) (hsz:ns.length<=sizeLine)
  (h:∀ h',BM h' x dx C (λ y=>if y=name then some v else mA y)->Heap.SameBut dx s.heap h'->Q () { s with heap:=h',toks:=s.toks+2 }) :
  wpAny (model prog w) A (setAttr (.ref x) name v) Q E s:=by
 obtain⟨od,J,hl⟩:=I.look;refine W.set_plain X J hs (W.osa_open (s:={ s with toks:=s.toks+1 }) (r:=none) X J hp ht λ b=>?_);obtain⟨cd,hc,hd'⟩:=W.any_some hh;have hx:s.heap.get? x=some ⟨.ref C,some dx,.plain,#[]⟩:=I.obj;refine My (MM (My (My (wpAny_loadPart hx (My (W.Looks.here (s:={ s with toks:=s.toks+1 }) (W.looks_clsIn X hc) ?_))))));rw [hd'];refine MM (a:=some dx) (My (MM (My ?_)));refine wpAny_nsSet1 (s:={ s with toks:=s.toks+1 }) I.ns λ h' hn2 hs2=>?_;obtain⟨oD,esD,epD,hoD,hdD,hcD⟩:=hn2.count (PySem.Within.cons name v hw);refine My (wpAny_lookBehind hoD (by rw [hdD];exact pastItsLine_dict (Nm hcD (by rw [Nc];omega))) ?_);exact MM (h _ ⟨(hs2.2 _ (Nd I.ne)).trans I.obj,hn2,I.ne⟩ hs2)
theorem zv{R:Result->Shared->Prop}{vs:List Value}{kw:List (Str × Value)}(X:K.In s.heap)(hm:W.makesIn K C=true)
  (hi:W.findIn K (.ref C) "__init__"=some (some (.ref f))) (hf:W.typeIn K (.ref f)=some (.type "function"))
  (h:codeAny (model prog w) (A.under (.builtin "type.__call__" ⟨.ref C::vs,kw⟩)) (.call (.ref f) ⟨.ref (s.heap.objs.size+1)::vs,kw⟩) (W.InitBack (s.heap.objs.size+1) R)
   { s with heap:=(s.heap.push W.emptyDict).push (W.instObj C s.heap.objs.size) }) :
  codeAny (model prog w) A (.call (.ref C) ⟨vs,kw⟩) R s:=by
 obtain⟨hh,g,d,t,os⟩:=s;exact W.make_core (W.makes_of X hm) (W.looks_findIn X hi) (λ self=>W.bind_fn X self hf) (.inl rfl) h
end
def ff(f:Str)(v:V):List (Str × V)->List (Str × V)
 | []=>[(f,v)]
 | (g,x)::r=>if g=f then (g,v)::r else (g,x)::ff f v r
theorem aS(f g:Str)(v:V):∀ fs:List (Str × V),(ff f v fs).lookup g=if g=f then some v else fs.lookup g
 | []=>by
  show List.lookup g [(f,v)]=_
  by_cases h:g=f
  ·have hb:(g == f)=true:=Ou.mpr h;simp only [List.lookup,hb,MI h]
  ·have hb:(g == f)=false:=Oc.mpr h;simp only [List.lookup,hb,MH h]
 | (k,x)::r=>by
  have ih:=aS f g v r;rw [show ff f v ((k,x)::r)=(if k=f then (k,v)::r else (k,x)::ff f v r) from rfl]
  by_cases hk:k=f
  ·rw [MI hk]
   by_cases h:g=k
   ·have hb:(g == k)=true:=Ou.mpr h;simp only [List.lookup,hb,MI (h.trans hk)]
   ·have hb:(g == k)=false:=Oc.mpr h;simp only [List.lookup,hb,MH (λ e:g=f=>h (e.trans hk.symm))]
  ·rw [MH hk]
   by_cases h:g=k
   ·have hb:(g == k)=true:=Ou.mpr h;simp only [List.lookup,hb,MH (λ e:g=f=>hk (h.symm.trans e))]
   ·have hb:(g == k)=false:=Oc.mpr h;simp only [List.lookup,hb];exact ih
theorem jb(f:Str)(v:V):∀ fs:List (Str × V),f∈(ff f v fs).map (·.1)/\∀ g,g∈fs.map (·.1)->g∈(ff f v fs).map (·.1)
 | []=>⟨by simp [ff],λ g h=>by simp at h⟩
 | (k,x)::r=>by
  obtain⟨i1,i2⟩:=jb f v r;rw [show ff f v ((k,x)::r)=(if k=f then (k,v)::r else (k,x)::ff f v r) from rfl]
  by_cases hk:k=f
  ·rw [MI hk];subst hk;exact⟨by simp,λ g h=>by simpa using h⟩
  ·rw [MH hk];refine⟨?_,λ g h=>?_⟩
   ·rw [Nf];exact MD _ i1
   ·rw [Nf] at h ⊢
    rcases MU.mp h with e|e
    ·exact MU.mpr (.inl e)
    ·exact MD _ (i2 g e)
theorem jl(f:Str)(v:V):∀ fs:List (Str × V),(ff f v fs).length<=fs.length+1
 | []=>by simp [ff]
 | (k,x)::r=>by
  have ih:=jl f v r;rw [show ff f v ((k,x)::r)=(if k=f then (k,v)::r else (k,x)::ff f v r) from rfl]
  by_cases hk:k=f
  ·rw [MI hk,Nc,Nc];omega
  ·rw [MH hk,Nc,Nc];omega
theorem ml.some_of{v:V}{o:Option Value}(r:ml (some v) o):∃ u,o=some u/\bF v u:=by
 cases o with
 | none=>exact(show False from r).elim
 | some u=>exact⟨u,rfl,r⟩
theorem ml.none_of{o:Option Value}(r:ml none o):o=none:=by
 cases o with
 | none=>rfl
 | some u=>exact(show False from r).elim
theorem xG{v:V}{u:Value}(r:bF v u):W.handedIn u=true:=by
 cases v with
 | non=>cases (show u=Value.none from r);rfl
 | bl b=>cases (show u=Value.bool b from r);rfl
 | int i=>obtain⟨t,e⟩:=(show ∃ t,u=Value.int i t from r);cases e;rfl
 | str x=>obtain⟨t,e⟩:=(show ∃ t,u=Value.str x t from r);cases e;rfl
 | byt b=>obtain⟨t,e⟩:=(show ∃ t,u=Value.bytes b t from r);cases e;rfl
 | flt b=>obtain⟨t,e⟩:=(show ∃ t,u=Value.float b t from r);cases e;rfl
 | ref a=>cases (show u=Value.ref a from r);rfl
 | ty n=>cases (show u=Value.type n from r);rfl
section
variable {P:Program}{w:World}{H H':Hp}{h h':Heap}{a C dx:Addr}{fs fs':List (Str × V)}
theorem kH(hok:HOk P w H h)(e:H a=some (.ins C dx fs)):∃ mA,BM h a dx C mA/\(∀ f,ml (fs.lookup f) (mA f))/\PySem.Within mA (fs.map (·.1))/\fs.length<=1000/\H dx=some (.own a):=by
 obtain⟨d,z,ne,ob,mA,n,r,q⟩:=(show bK P w H h a (.ins C dx fs) from hok a _ e);exact⟨mA,⟨ob,n,ne⟩,r,q,z,d⟩
end
structure Cls(K:W.Frag)(C:Addr):Prop where
 pg:W.plainGet K C Str.empty=true
 hd:W.hasDictIn K C=true
 po:W.plainOver K C=true
 sa:W.findIn K (.ref C) "__setattr__"=some (some (.builtin "object.__setattr__"))
theorem Cls.get{K:W.Frag}{C:Addr}(c:Cls K C)(f:Str):W.plainGet K C f=true:=c.pg
def eI(K:W.Frag)(C:Addr)(f:Str):Prop:=W.findIn K (.ref C) f=some none
theorem eI.taker{K:W.Frag}{C:Addr}{f:Str}(n:eI K C f):W.takerIn K C f=some none:=by
 unfold W.takerIn;rw [show W.findIn K (.ref C) f=some none from n];rfl
structure BN(K:W.Frag)(C:Addr)(m:Str)(f:Addr):Prop where
 at_:W.findIn K (.ref C) m=some (some (.ref f))
 fn:W.isFn K (.ref f)=true
 kp:W.keepIn K (.ref f)=true
section
variable {X:Cx}{pins:List (Addr × Obj)}{σ:St}{H:Hp}{s:Shared}{a C dx:Addr}{fs:List (Str × V)}{f:Str}{v:V}{A:Around}{E:Value->Shared->Prop}
theorem tS{b:Bool}{Q:Value->Shared->Prop}(I:Inv X pins σ H s)(e:H a=some (.ins C dx fs))(c:Cls X.K C)(n:eI X.K C f)(l:fs.lookup f=some v)
  (h:∀ u s',Inv X pins σ H s'->bF v u->Q u s'):wpAny (model X.prog X.w) A (getAttr (.ref a) f b) Q E s:=by
 obtain⟨mA,O,r,_,_,_⟩:=kH I.hok e;obtain⟨u,hu,ru⟩:=ml.some_of (v:=v) (o:=mA f) (by rw [←l];exact r f);exact Em I.kIn O (c.get f) c.hd n hu (xG ru) (h u _ (I.tok _) ru)
theorem tR{m:Str}{g:Addr}{pl:Sem Bool}{Q:Value × List Value->Shared->Prop}(I:Inv X pins σ H s)(e:H a=some (.ins C dx fs))(c:Cls X.K C)(k:BN X.K C m g)(l:fs.lookup m=none)
  (h:Q (.ref g,[.ref a]) s):wpAny (model X.prog X.w) A (getMethod (.ref a) m pl) Q E s:=by
 obtain⟨mA,O,r,_,_,_⟩:=kH I.hok e;have hn:mA m=none:=ml.none_of (by rw [←l];exact r m);exact Au I.kIn O (c.get m) k.at_ k.fn hn h
theorem sN{y:V}{u:Value}{Q:Unit->Shared->Prop}(I:Inv X pins σ H s)(e:H a=some (.ins C dx fs))(c:Cls X.K C)(n:eI X.K C f)(hl:fs.length < 1000)(ry:bF y u)
  (h:∀ s',Inv X pins σ (upd H a (.ins C dx (ff f y fs))) s'->Q () s'):wpAny (model X.prog X.w) A (setAttr (.ref a) f u) Q E s:=by
 obtain⟨mA,O,r,wi,_,ho⟩:=kH I.hok e;have hz:(fs.map (·.1)).length<=sizeLine:=by rw [MK,sizeLine_eq];omega
 refine Cz I.kIn O c.sa c.po n.taker c.hd wi hz λ h' O' sb=>h _ ?_;have hd:∃ o,h'.get? dx=some o:=let ⟨o,_,_,e',_⟩:=O'.ns;⟨o,e'⟩;refine I.write (x:=a) (e:=dx) (by rw [e];exact True.intro) (.inr ho) (λ b q hb z=>(sb.2 b hb).trans z) hd ?_;refine⟨by rw [ai O.ne];exact ho,?_,O.ne,O'.obj,_,O'.ns,λ g=>?_,λ g hg=>?_⟩
 ·have:=jl f y fs;omega
 ·show ml ((ff f y fs).lookup g) (if g=f then some u else mA g)
  rw [aS]
  by_cases q:g=f
  ·rw [MI q,MI q];exact ry
  ·rw [MH q,MH q];exact r g
 ·by_cases q:g=f
  ·rw [q];exact(jb f y fs).1
  ·refine(jb f y fs).2 g (wi g λ z=>hg ?_)
   show (if g=f then some u else mA g)=none
   rw [MH q];exact z
theorem Inv.made(I:Inv X pins σ H s):Inv X pins σ (upd (upd H s.heap.objs.size (.own (s.heap.objs.size+1))) (s.heap.objs.size+1) (.ins C s.heap.objs.size []))
  { s with heap:=(s.heap.push W.emptyDict).push (W.instObj C s.heap.objs.size) }:=by
 have e1:(s.heap.push W.emptyDict).get? s.heap.objs.size=some W.emptyDict:=MO s.heap rfl
 have e2:((s.heap.push W.emptyDict).push (W.instObj C s.heap.objs.size)).get? (s.heap.objs.size+1)=some (W.instObj C s.heap.objs.size):=by
  have:=MO (s.heap.push W.emptyDict) (o:=W.instObj C s.heap.objs.size) rfl
  rwa [Nz] at this
 have e3:(s.heap.push W.emptyDict).Ns s.heap.objs.size (λ _=>none):=⟨W.emptyDict,#[],_,e1,rfl,(λ e he=>absurd he (by simp)),λ _=>rfl⟩;have I1:=I.laid (a:=s.heap.objs.size) (o:=.own (s.heap.objs.size+1)) (h':=s.heap.push W.emptyDict) (t':=s.toks) (λ b u q=>Mz _ q) (MG _) ⟨_,e1⟩;refine I1.laid (a:=s.heap.objs.size+1) (o:=.ins C s.heap.objs.size []) (t':=s.toks) (λ b u q=>Mz _ q) (Pb (Nz _ _)) ?_;have ne:s.heap.objs.size ≠ s.heap.objs.size+1:=MS (Oa _);refine⟨by rw [ai ne,aj],Np _,ne,e2,λ _=>none,(Heap.Ns1.of_empty e3).at λ o q=>Mz _ q,λ _=>True.intro,λ y hy=>absurd rfl hy⟩
theorem EK{prog:Program}{w:World}{env:Env}{e:Expr}{f:Str}{pos:Pos}{s:Shared}{Q:Value->Shared->Prop}(hb:attributeBase e f env (eval e env)=eval e env)
  (h:wpAny (model prog w) A (eval e env) (λ o s₁=>wpAny (model prog w) A (getAttr o f true) Q E s₁) E s):wpAny (model prog w) A (eval (.Attribute e f pos) env) Q E s:=
 Attribute_any_ h (by rw [arm_eval_Attribute,hb])
end
section
variable {X:Cx}{o e value:Expr}{f:Str}{pos pos' tpos:Pos}{ta tv:TE}
end
section
variable {X:Cx}{pins:List (Addr × Obj)}{σ:St}{H:Hp}{s:Shared}{A:Around}{E:Value->Shared->Prop}{Q:Value->Shared->Prop}{c:Value}{b:Bool}
inductive qp (K:PySem.W.Frag) (H:Hp):V->Value->Prop where
 | non:qp K H .non (.type "NoneType")
 | bl (x:Bool):qp K H (.bl x) (.type "bool")
 | int (i:Int):qp K H (.int i) (.type "int")
 | str (x:Str):qp K H (.str x) (.type "str")
 | flt (x:UInt64):qp K H (.flt x) (.type "float")
 | lst {a:Addr} {xs:List V} (e:H a=some (.lst xs)):qp K H (.ref a) (.type "list")
 | frz {a:Addr} {o:Obj} {xs:List V} (e:H a=some (.frz o (.lst xs))):qp K H (.ref a) (.type "list")
 | tup {a:Addr} {xs:List V} (e:H a=some (.tup xs)):qp K H (.ref a) (.type "tuple")
 | dK {a:Addr} {kvs:List (Key × V)} (e:H a=some (.dK kvs)):qp K H (.ref a) (.type "dict")
 | dT {a:Addr} {kvs:List (List Key × V)} (e:H a=some (.dT kvs)):qp K H (.ref a) (.type "dict")
 | ins {a C dx:Addr} {fs:List (Str × V)} (e:H a=some (.ins C dx fs)) (cl:Cls K C) (ha:PySem.W.findIn K (.ref C) "__class__"=some (some (.builtin "object.__class__")))
   (hn:PySem.W.specialIn K (.builtin "object.__class__") "__get__"=some (some (.builtin "getset_descriptor.__get__"))) (htk:PySem.W.takesIn K (.builtin "object.__class__")=some true)
   (hm:PySem.W.mroIn K C (.type "object")=some true):qp K H (.ref a) (.ref C)
theorem xD{x:V}{u t:Value}(I:Inv X pins σ H s)(rx:bF x u)(ty:qp X.K H x t)(e:W.kitOne X.K t c=some b)(h:∀ tk,Q (.bool b) { s with toks:=tk }) :
  wpAny (model X.prog X.w) A (call (.builtin "isinstance") [u,c]) Q E s:=by
 cases ty with
 | non=>cases (show u=Value.none from rx);exact N7 W.kitx_none I.kIn True.intro e (λ z=>nomatch z) h
 | bl y=>cases (show u=Value.bool y from rx);exact N7 W.kitx_bool I.kIn True.intro e (λ z=>nomatch z) h
 | int i=>obtain⟨t,q⟩:=(show ∃ t,u=Value.int i t from rx);cases q;exact N7 W.kitx_int I.kIn True.intro e (λ z=>nomatch z) h
 | str y=>obtain⟨t,q⟩:=(show ∃ t,u=Value.str y t from rx);cases q;exact N7 W.kitx_str I.kIn True.intro e (λ z=>nomatch z) h
 | flt y=>obtain⟨t,q⟩:=(show ∃ t,u=Value.float y t from rx);cases q;exact N7 W.kitx_float I.kIn True.intro e (λ z=>nomatch z) h
 | @lst a xs ea=>
  cases (show u=Value.ref a from rx);obtain⟨_,_,n,_,h1⟩:=(show bK X.prog X.w H s.heap a (.lst xs) from I.hok a _ ea);exact N7 W.kitx_list I.kIn ⟨_,h1,rfl⟩ e (λ z=>nomatch z) h
 | @frz a ob xs ea=>
  cases (show u=Value.ref a from rx);obtain⟨_,_,_,n,_,h1⟩:=(show bK X.prog X.w H s.heap a (.frz ob (.lst xs)) from I.hok a _ ea);exact N7 W.kitx_list I.kIn ⟨_,h1,rfl⟩ e (λ z=>nomatch z) h
 | @tup a xs ea=>
  cases (show u=Value.ref a from rx);obtain⟨_,_,_,p⟩:=(show bK X.prog X.w H s.heap a (.tup xs) from I.hok a _ ea);obtain⟨o,h1,h2,_⟩:=p;exact N7 W.kitx_tuple I.kIn ⟨o,h1,h2⟩ e (λ z=>nomatch z) h
 | @dK a kvs ea=>
  cases (show u=Value.ref a from rx);obtain⟨_,_,vs,_,p⟩:=(show bK X.prog X.w H s.heap a (.dK kvs) from I.hok a _ ea);obtain⟨o,es,ep,h1,h2,_⟩:=p;exact N7 W.kitx_dict I.kIn ⟨o,h1,h2.1⟩ e (λ z=>nomatch z) h
 | @dT a kvs ea=>
  cases (show u=Value.ref a from rx);obtain⟨_,_,xs,_,o,es,ep,h1,h2,_⟩:=(show bK X.prog X.w H s.heap a (.dT kvs) from I.hok a _ ea);exact N7 W.kitx_dict I.kIn ⟨o,h1,h2.1⟩ e (λ z=>nomatch z) h
 | @ins a C dx fs ea cl ha hn htk hm=>
  cases (show u=Value.ref a from rx);obtain⟨mA,O,_⟩:=kH I.hok ea;obtain⟨od,J,_⟩:=O.look;exact N7 (W.kitx_own (cl.get _) cl.hd ha hn htk hm) I.kIn J e (λ z=>nomatch z) h
end
structure g7(k:Nat)(A:Around):Prop where
 hd:A.handled=none
 dp:A.depth+3 * k+5 < recursionLimit
 un:A.units+16 * k+200 < cLine
theorem g7.mono{j k:Nat}{A:Around}(r:g7 k A)(h:j<=k):g7 j A:=⟨r.hd,by have:=r.dp;omega,by have:=r.un;omega⟩
theorem g7.deeper{k:Nat}{A:Around}(r:g7 (k+1) A)(env:Env):g7 k (A.deeper env):=
 ⟨r.hd,by have:=r.dp;show A.depth+1+3 * k+5 < _;omega,by have:=r.un;show A.units+3+16 * k+200 < _;omega⟩
theorem sX{A:Around}{C:Addr}{us:List Value}{kw:List (Str × Value)}:(A.under (.builtin "type.__call__" ⟨.ref C::us,kw⟩)).depth=A.depth+1:=by
 first|rfl|simp [Around.under,Code.weight,Code.isCreation,Code.isGuard,Code.isCaller,Code.frames,Code.isFrame,guardIds]
theorem sW{A:Around}{C:Addr}{us:List Value}{kw:List (Str × Value)}:(A.under (.builtin "type.__call__" ⟨.ref C::us,kw⟩)).units=A.units+1:=by
 first|rfl|simp [Around.under,Code.cUnits,Code.frames,Code.isFrame]
theorem g7.make{k:Nat}{A:Around}(r:g7 (k+1) A)(C:Addr)(us:List Value)(kw:List (Str × Value)):g7 k (A.under (.builtin "type.__call__" ⟨.ref C::us,kw⟩)):=
 ⟨r.hd,by have:=r.dp;rw [sX];omega,by have:=r.un;rw [sW];omega⟩
theorem g7.depth{k:Nat}{A:Around}(r:g7 k A):A.depth < recursionLimit:=by have:=r.dp;omega
theorem g7.units{k:Nat}{A:Around}(r:g7 k A):A.units+64 < cLine:=by have:=r.un;omega
def E3:TA:=λ _ H Q=>Q [] H
def ux(ta:TE)(tr:TA):TA:=λ σ H Q=>ta σ H λ x H1=>tr σ H1 λ xs H2=>Q (x::xs) H2
section
variable {X:Cx}{e:Expr}{es:List Expr}{te:TE}{t:TA}{pos:Pos}
theorem cF:PA X [] E3:=λ _ _ _ _ H Q I h=>Calls.spliced_nil ⟨[],H,I,.nil,h⟩
theorem CV(ha:PE X e te)(hr:PA X es t)(hs:starEach (e::es) X.env=(false,eval e X.env)::starEach es X.env:=by rfl):PA X (e::es) (ux te t):=by
 intro pos pins s σ H Q I h;rw [hs]
 show wpAny _ _ (spliced ((false,eval e X.env)::backTo pos (starEach es X.env))) _ _ s
 refine PQ (thn (ha pins s σ H _ I h) λ u s1 ⟨x,H1,I1,r1,q1⟩=>?_);exact thn (hr pos pins s1 σ H1 _ I1 q1) λ us s2 ⟨xs,H2,I2,r2,q2⟩=>⟨x::xs,H2,I2,.cons r1 r2,q2⟩
end
abbrev Sp:=List V->Hp->VK->XK->Prop
abbrev CXT:=List Env->Hp->Shared->XK->Value->Shared->Prop
structure A9(P:Program)(w:World)(K:W.Frag)(mg:Str->Option Value)(base:Heap)(A:Around)(outer:List Env)(s:Shared)(H:Hp):Prop where
 frames:A.frames=some outer
 mod:Mod K mg base
 bs:∀ b o,base.get? b=some o->s.heap.get? b=some o/\H b=none
 bsz:base.objs.size<=s.heap.objs.size
 funs:s.heap.FunFrames base outer
 frf:∀ b∈frs outer,H b=none
 hok:HOk P w H s.heap
 bare:AllBare s.gens
def CE(outer:List Env)(P:Program)(w:World)(H:Hp)(s:Shared)(Q:VK)(u:Value)(s':Shared):Prop:=
 ∃ v H',s'.os=s.os/\AllBare s'.gens/\Un (frs outer) [] H H' s.heap s'.heap/\HOk P w H' s'.heap/\bF v u/\Q v H'
def CR(CX:CXT)(outer:List Env)(P:Program)(w:World)(H:Hp)(s:Shared)(Q:VK)(E:XK)(r:Result)(s':Shared):Prop:=
 match r with
 | .ok (.ret u)=>CE outer P w H s Q u s'
 | .ok _=>False
 | .error e=>CX outer H s E e s'
structure bj(P:Program)(w:World)(K:W.Frag)(mg:Str->Option Value)(base:Heap)(CX:CXT)(k:Nat)(f:Addr)(fd:FuncData)(ps:List Str)(sp:Sp):Prop where
 len:∀ vs H Q E,sp vs H Q E->vs.length=ps.length
 run:∀ (A:Around) (outer:List Env) (s:Shared) (H:Hp) (args:Args) (us:List Value) (vs:List V) (Q:VK) (E:XK),g7 k A->A9 P w K mg base A outer s H->BindsTo s fd args (ps.zip us)->bq vs us->sp vs H Q E →
  codeAny (model P w) A (.call (.ref f) args) (CR CX outer P w H s Q E) s
theorem bj.imp{P:Program}{w:World}{K:W.Frag}{mg:Str->Option Value}{base:Heap}{CX:CXT}{k:Nat}{f:Addr}{fd:FuncData}{ps:List Str}{sp sp':Sp}(F:bj P w K mg base CX k f fd ps sp)
  (h:∀ vs H Q E,sp' vs H Q E->sp vs H Q E):bj P w K mg base CX k f fd ps sp':=
 ⟨λ vs H Q E q=>F.len vs H Q E (h _ _ _ _ q),λ A outer s H args us vs Q E hr he hb hv hs=>F.run A outer s H args us vs Q E hr he hb hv (h _ _ _ _ hs)⟩
theorem A9.make{P:Program}{w:World}{K:W.Frag}{mg:Str->Option Value}{base:Heap}{A:Around}{outer:List Env}{s:Shared}{H:Hp}(e:A9 P w K mg base A outer s H)(C:Addr)(us:List Value)(kw:List (Str × Value)) :
  A9 P w K mg base (A.under (.builtin "type.__call__" ⟨.ref C::us,kw⟩)) outer s H:=⟨by first|exact e.frames|(simpa [Around.under,Code.envs,Code.isFrame,pushEnvs] using e.frames),e.mod,e.bs,e.bsz,e.funs,e.frf,e.hok,e.bare⟩
section
variable {X:Cx}{pins:List (Addr × Obj)}{σ:St}{H:Hp}{s s':Shared}
theorem Inv.env0(I:Inv X pins σ H s):A9 X.prog X.w X.K X.mg X.base X.A X.stack s H:=
 ⟨I.ok.frames,I.ok.mod,I.bs,Nm I.ok.bsz I.sz,I.stack,I.stkFree,I.hok,I.bare⟩
theorem Inv.after{Q:VK}{u:Value}(I:Inv X pins σ H s)(h:CE X.stack X.prog X.w H s Q u s'):EP X pins σ Q u s':=by
 obtain⟨v,H',os,bare,un,hok,r,q⟩:=h;obtain⟨hh,g,d,t,os'⟩:=s';obtain rfl:os'=s.os:=os;exact⟨v,H',I.call (h':=hh) (g':=g) (d':=d) (t':=t) (ch:=[]) un hok bare (λ b z=>absurd z (by simp)),r,q⟩
end
def Fn(sp:Sp)(dvs:List V)(E:XK)(t:TA):TE:=λ σ H Q=>t σ H λ vs H1=>sp (vs++dvs) H1 Q E
def aC(K:W.Frag)(fd:FuncData)(ps:List Str)(ds:List Value):Prop:=
 ∀ (s:Shared) (us:List Value),K.In s.heap->(us++ds).length=ps.length->BindsTo s fd ⟨us,[]⟩ (ps.zip (us++ds))
theorem aC.all{K:W.Frag}{fd:FuncData}{ps:List Str}(h:∀ us:List Value,us.length=ps.length->bindArgs fd ⟨us,[]⟩=pure (ps.zip us)):aC K fd ps []:=λ s us _ hl=>by
 rw [Oz] at hl ⊢;exact .of_eq (h us hl)
def iM(CX:CXT)(X:Cx)(E:XK):Prop:=∀ (pins:List (Addr × Obj)) (σ:St) (H:Hp) (s:Shared) (e:Value) (s':Shared),Inv X pins σ H s->CX X.stack H s E e s'->X.xe e s'
section
variable {X:Cx}{CX:CXT}{k:Nat}{f C:Addr}{fd:FuncData}{ps:List Str}{sp:Sp}{dvs:List V}{ds:List Value}{E:XK}{x m:Str}{p pos apos:Pos}{e o:Expr}{es:List Expr}{ta:TE}{t:TA}
theorem Bi{pins:List (Addr × Obj)}{σ:St}{H:Hp}{s:Shared}{Q:VK}{us:List Value}{vs:List V}(F:bj X.prog X.w X.K X.mg X.base CX k f fd ps sp)(hr:g7 k X.A)(hb:aC X.K fd ps ds)(hd:bq dvs ds)(hx:iM CX X E)
  (I:Inv X pins σ H s) (r:bq vs us) (h:sp (vs++dvs) H Q E):wpAny (model X.prog X.w) X.A (call (.ref f) us) (EP X pins σ Q) X.xe s:=by
 have r2:bq (vs++dvs) (us++ds):=r.append hd;have hl:(us++ds).length=ps.length:=by rw [←r2.length];exact F.len _ _ _ _ h
 refine wpAny_call (N6 (F.run X.A X.stack s H ⟨us,[]⟩ (us++ds) (vs++dvs) Q E hr I.env0 (hb s us I.kIn hl) r2 h) λ r s' hq=>?_)
 cases r with
 | error e=>exact hx pins σ H s e s' I hq
 | ok fl=>
  cases fl with
  | ret u=>exact I.after hq
  | next=>exact False.elim hq
  | brk=>exact False.elim hq
  | cont=>exact False.elim hq
theorem kD(F:bj X.prog X.w X.K X.mg X.base CX k f fd ps sp)(hr:g7 k X.A)(hg:Gl X x)(hm:X.mg x=some (.ref f))(hk:W.keepIn X.K (.ref f)=true)(hb:aC X.K fd ps ds)(hd:bq dvs ds)(hx:iM CX X E)
  (ha:PA X (e::es) t) (hdb:(x == ("__debug__":Str))=false:=by decide) (he:starEach (e::es) X.env=(false,eval e X.env)::starEach es X.env:=by rfl) (hpl:(backTo pos (starEach es X.env)).any (·.1)=false:=by rfl) :
  PE X (.Call (.Name x p) (e::es) [] pos) (Fn sp dvs E t):=by
 intro pins s σ H Q I h;refine NY (gD I hg hm ?_ hdb);refine W.callWith_K (h₀:=X.base) I.ok.mod.kin hk (thn (ha pos pins s σ H _ I h) λ us s1 ⟨vs,H1,I1,r,q⟩=>⟨I1.kIn,?_⟩) he hpl;exact Bi F hr hb hd hx I1 r q
structure Mk(K:W.Frag)(C f:Addr):Prop where
 makes:W.makesIn K C=true
 init:W.findIn K (.ref C) "__init__"=some (some (.ref f))
 fn:W.isFn K (.ref f)=true
 kp:W.keepIn K (.ref C)=true
theorem yY{pins:List (Addr × Obj)}{σ:St}{H:Hp}{s:Shared}{Q:VK}{us:List Value}{vs:List V}(M:Mk X.K C f)(F:bj X.prog X.w X.K X.mg X.base CX k f fd ps sp)(hr:g7 (k+1) X.A)(hb:aC X.K fd ps ds)(hd:bq dvs ds)
  (hx:iM CX X E) (I:Inv X pins σ H s) (r:bq vs us)
  (h:∀ x dx,H x=none->H dx=none->dx ≠ x->sp (.ref x::(vs++dvs)) (upd (upd H dx (.own x)) x (.ins C dx [])) (λ v H2=>v=.non/\Q (.ref x) H2) E) :
  wpAny (model X.prog X.w) X.A (call (.ref C) us) (EP X pins σ Q) X.xe s:=by
 have hq:=h (s.heap.objs.size+1) s.heap.objs.size (I.hok.fresh (Nat.le_succ _)) (I.hok.fresh (MG _)) (MS (Oa _));have I2:=Inv.made (C:=C) I;have r2:bq (V.ref (s.heap.objs.size+1)::(vs++dvs)) (Value.ref (s.heap.objs.size+1)::(us++ds)):=.cons rfl (r.append hd)
 have hl:(Value.ref (s.heap.objs.size+1)::us++ds).length=ps.length:=by
  have e:=r2.length;rw [F.len _ _ _ _ hq] at e;exact e.symm
 refine wpAny_call (zv (f:=f) I.kIn M.makes M.init (Ou.mp M.fn) (N6 (F.run _ X.stack _ _ ⟨Value.ref (s.heap.objs.size+1)::us,[]⟩ (Value.ref (s.heap.objs.size+1)::(us++ds)) _ _ E (hr.make C us [])
  (I2.env0.make C us []) (hb _ (Value.ref (s.heap.objs.size+1)::us) I2.kIn hl) r2 hq) λ r s' hq'=>?_))
 cases r with
 | error e=>exact hx pins σ _ _ e s' I2 hq'
 | ok fl=>
  cases fl with
  | ret u=>
   obtain⟨v,H',I3,rv,ev,q3⟩:=I2.after hq';subst ev;exact⟨rv,⟨V.ref (s.heap.objs.size+1),H',I3,rfl,q3⟩⟩
  | next=>exact False.elim hq'
  | brk=>exact False.elim hq'
  | cont=>exact False.elim hq'
end
def PK(X:Cx)(kws:List Keyword)(t:TA):Prop:=
 ∀ (pos:Pos) (pins:List (Addr × Obj)) (s:Shared) (σ:St) (H:Hp) (Q:List V->Hp->Prop),Inv X pins σ H s->t σ H Q->wpAny (model X.prog X.w) X.A (evalAll ((backToKw pos (keywordEach kws X.env)).map (·.2))) (AP X pins σ Q) X.xe s
section
variable {X:Cx}{CX:CXT}{k:Nat}{f C:Addr}{fd:FuncData}{ps ks:List Str}{sp:Sp}{E:XK}{x m:Str}{p pos apos kpos:Pos}{e o:Expr}{es:List Expr}{kws:List Keyword}{te ta:TE}{t tk:TA}{nm:Option Str}
theorem Bm:PK X [] E3:=λ _ _ _ _ H Q I h=>wpAny_evalAll_nil ⟨[],H,I,.nil,h⟩
theorem vF(ha:PE X e te)(hr:PK X kws t):PK X (⟨nm,e,kpos⟩ :: kws) (ux te t):=by
 intro pos pins s σ H Q I h
 show wpAny _ _ (evalAll ((do let v ←eval e X.env;standAt pos;pure v)::(backToKw pos (keywordEach kws X.env)).map (·.2))) _ _ s
 refine wpAny_evalAll_cons (My (thn (ha pins s σ H _ I h) λ u s1 ⟨x,H1,I1,r1,q1⟩=>My (Pe (MM ?_))));exact thn (hr pos pins s1 σ H1 _ I1 q1) λ us s2 ⟨xs,H2,I2,r2,q2⟩=>⟨x::xs,H2,I2,.cons r1 r2,q2⟩
variable {g:List Value->List Value->List Value}{gV:List V->List V->List V}
end
structure ak(N P:List Str)(sc:Scope):Prop where
 kind:sc.kind=.function
 co:sc.isCoroutine=false
 gen:sc.isGenerator=false
 nd:N.Nodup
 pre:N.take P.length=P
 par:∀ x∈P,sc.names.lookup x=some .local\/sc.names.lookup x=some .cell
 nofree:∀ y∈sc.names,y.2 ≠ .free
theorem nj{kindOf:Str->Option NameKind}{x:Str}:∀ {binds:List (Str × Value)}{m:Str->Option Value},(∀ v,(x,v) ∉ binds)->bindL kindOf binds m x=m x
 | [],_,_=>rfl
 | (n,v)::r,m,h=>by
  unfold bindL;rw [nj λ w hw=>h w (mem_cons_of_mem _ hw)];split
  ·have:x ≠ n:=by rintro rfl;exact h v MF
   simp [this]
  ·rfl
theorem nq{kindOf:Str->Option NameKind}{x:Str}:∀ {binds:List (Str × Value)}{m:Str->Option Value},(∀ v,(x,v) ∉ binds)->bindC kindOf binds m x=m x
 | [],_,_=>rfl
 | (n,v)::r,m,h=>by
  unfold bindC;rw [nq λ w hw=>h w (mem_cons_of_mem _ hw)];split
  ·rfl
  ·have:x ≠ n:=by rintro rfl;exact h v MF
   simp [this]
theorem nk{kindOf:Str->Option NameKind}{x:Str}{v:Value}:∀ {P:List Str}{vs:List Value}{i:Nat}{m:Str->Option Value},P.Nodup->P[i]? = some x->vs[i]? = some v->kindOf x=some .local →
  bindL kindOf (P.zip vs) m x=some v
 | [],_,_,_,_,h,_,_=>by simp at h
 | _::_,[],_,_,_,_,h,_=>by simp at h
 | p::P,w::vs,0,m,nd,h1,h2,hk=>by
  simp at h1 h2;subst h1;subst h2
  show bindL kindOf ((p,w)::P.zip vs) m p=_
  unfold bindL;rw [nj λ v hv=>(List.nodup_cons.mp nd).1 (of_mem_zip hv).1,if_pos hk];simp
 | p::P,w::vs,i+1,m,nd,h1,h2,hk=>by
  show bindL kindOf ((p,w)::P.zip vs) m x=_
  unfold bindL;exact nk (i:=i) (List.nodup_cons.mp nd).2 (by simpa using h1) (by simpa using h2) hk
theorem nt{kindOf:Str->Option NameKind}{x:Str}{v:Value}:∀ {P:List Str}{vs:List Value}{i:Nat}{m:Str->Option Value},P.Nodup->P[i]? = some x->vs[i]? = some v->kindOf x ≠ some .local →
  bindC kindOf (P.zip vs) m x=some v
 | [],_,_,_,_,h,_,_=>by simp at h
 | _::_,[],_,_,_,_,h,_=>by simp at h
 | p::P,w::vs,0,m,nd,h1,h2,hk=>by
  simp at h1 h2;subst h1;subst h2
  show bindC kindOf ((p,w)::P.zip vs) m p=_
  unfold bindC;rw [nq λ v hv=>(List.nodup_cons.mp nd).1 (of_mem_zip hv).1,if_neg hk];simp
 | p::P,w::vs,i+1,m,nd,h1,h2,hk=>by
  show bindC kindOf ((p,w)::P.zip vs) m x=_
  unfold bindC;exact nt (i:=i) (List.nodup_cons.mp nd).2 (by simpa using h1) (by simpa using h2) hk
def aE(N:List Str)(vs:List V):St:=vs.map some++List.replicate (N.length - vs.length) none
def yp(CX:CXT)(P:Program)(w:World)(K:W.Frag)(mg:Str->Option Value)(base:Heap)(N:List Str)(qual:Str)(scope:Scope)(f:Addr)(cd:Value)(A:Around)(outer:List Env)(s:Shared)(H:Hp)(E:XK):Cx where
 prog:=P
 w:=w
 K:=K
 mg:=mg
 base:=base
 A:=A.deeper (envOfC qual scope s.heap.objs.size f cd)
 N:=N
 s₀:=s
 H₀:=H
 env:=envOfC qual scope s.heap.objs.size f cd
 outer:=outer
 stack:=envOfC qual scope s.heap.objs.size f cd::outer
 ex:=[]
 calm:=true
 fn:=λ _=>true
 pn:=[]
 xe:=λ e s'=>wpAny (model P w) (A.deeper (envOfC qual scope s.heap.objs.size f cd)) (leaving (envOfC qual scope s.heap.objs.size f cd) e) (λ _ s''=>CX outer H s E e s'') (λ e' s''=>CX outer H s E e' s'') s'
theorem rL{sc:Scope}{n:Nat}{x:Str}(h:sc.names.lookup x=some .cell):∃ c,(cellsFrom n sc.names []).lookup x=some c:=by
 have q:=W.cellsFrom_some sc.names n [] (.inl h);exact OU.mp q
theorem xE{CX:CXT}{P:Program}{w:World}{K:W.Frag}{mg:Str->Option Value}{base:Heap}{N ps:List Str}{qual:Str}{scope:Scope}{f:Addr}{cd:Value}{A:Around}{outer:List Env}{s s1:Shared}{H:Hp}{E:XK}{us:List Value}{vs:List V}
  (S:ak N ps scope) (hd:A.handled=none) (e0:A9 P w K mg base A outer s H) (hl:vs.length=ps.length) (r:bq vs us)
  (x:InCallC s s.heap.objs.size (bindL (envOfC qual scope s.heap.objs.size f cd).kindOf (ps.zip us) λ _=>none) (cellsFrom (s.heap.objs.size+1) scope.names []) (bindC (envOfC qual scope s.heap.objs.size f cd).kindOf (ps.zip us) λ _=>none) s1) :
  Inv (yp CX P w K mg base N qual scope f cd A outer s H E) [] (aE N vs) H s1:=by
 have hpl:ps.length<=N.length:=by have:=NF List.length S.pre;rw [NP] at this;omega
 obtain⟨h1,tk,rfl,hk⟩:=x.done;have noA:∀ b:Addr,b ∉ (yp CX P w K mg base N qual scope f cd A outer s H E).ex:=λ b z=>absurd (show b∈([]:List Addr) from z) (by simp)
 refine⟨⟨e0.mod,S.kind,rfl,rfl,MG _,λ y z c h1 h2=>?_,λ y hy=>?_,λ y c _ h=>?_,λ _=>hd,Around.frames_deeper e0.frames,.inr ⟨rfl,rfl⟩,λ b z=>absurd z (noA b),e0.bs,e0.bsz,λ b _ _=>noA b,λ b z=>absurd z (noA b),e0.funs,e0.frf⟩,
  rfl,e0.bare,Un.kept hk,⟨_,x.toInCall.ns,λ i y v h1 h2 h3=>?_⟩,λ y c h=>⟨_,x.cell y c h⟩,e0.hok.fresh (MG _),λ y c h=>?_,λ p hp=>absurd (show p∈([]:List (Addr × Obj)) from hp) (by simp),e0.hok.kept hk,?_⟩
 ·exact name_of_addr x.apart (Od h1) (Od h2)
 ·have hy:scope.names.lookup y=some .cell\/scope.names.lookup y=some .free:=hy
  rcases hy with hy|hy
  ·exact rL hy
  ·exact absurd rfl (S.nofree _ (Od hy))
 ·exact OJ (x.above y c (Od h))
 ·have hi:i < vs.length:=by
   unfold aE at h2
   by_cases hi:i < vs.length
   ·exact hi
   ·rw [Ng (by simpa using hi)] at h2;rw [OX] at h2
    split at h2<;>cases h2
  have ha:vs[i]? = some v:=by
   unfold aE at h2;rw [getElem?_append_left (by simpa using hi),getElem?_map] at h2
   cases e:vs[i]? with
   | none=>rw [e] at h2;cases h2
   | some a=>rw [e] at h2;cases h2;rfl
  obtain⟨u,hu,rv⟩:=r.get ha
  have hp:ps[i]? = some y:=by
   rw [←S.pre,List.getElem?_take_of_lt (by omega)];exact h1
  have ndP:ps.Nodup:=by rw [←S.pre];exact S.nd.sublist (List.take_sublist _ _)
  refine⟨u,rv,?_⟩
  rcases S.par y (N3 hp) with k|k
  ·exact .inl ⟨k,nk ndP hp hu k⟩
  ·obtain⟨c,e⟩:=rL (n:=s.heap.objs.size+1) k;refine .inr ⟨.inl k,c,e,?_⟩;have q:=x.cell y c e;rw [nt ndP hp hu (by show scope.names.lookup y ≠ _;rw [k];decide)] at q;exact q
 ·exact e0.hok.fresh (OJ (x.above y c (Od h)))
 ·unfold aE
  show _=N.length
  rw [ML,MK,List.length_replicate];omega
theorem FP{CX:CXT}{P:Program}{w:World}{K:W.Frag}{mg:Str->Option Value}{base:Heap}{k:Nat}{f:Addr}{name qual:Str}{params:Arguments}{body:List Stmt}{scope:Scope}{dV kV doc pm cdv ct oc:Value}{an od:Option Addr}
  {osl:Array (Option Value)} {N ps:List Str} {sp:Sp} (lk:K.lookup f=some ⟨oc,od,.func (W.fnOf name qual params body scope dV kV doc pm an cdv ct),osl⟩) (hcd:W.codeIn K cdv qual=true) (S:ak N ps scope)
  (len:∀ vs H Q E,sp vs H Q E->vs.length=ps.length)
  (hbody:∀ (A:Around) (outer:List Env) (s:Shared) (H:Hp) (vs:List V) (Q:VK) (E:XK),g7 k (A.deeper (envOfC qual scope s.heap.objs.size f cdv))->sp vs H Q E →
   ∃ t,PSs (yp CX P w K mg base N qual scope f cdv A outer s H E) body t/\t { nx:=λ _ H'=>Q .non H',rt:=Q } (aE N vs) H) :
  bj P w K mg base CX (k+1) f (W.fnOf name qual params body scope dV kV doc pm an cdv ct) ps sp:=by
 refine⟨len,λ A outer s H args us vs Q E hr e0 hb r hsp=>?_⟩;have hl:=len _ _ _ _ hsp;have KX:K.In s.heap:=e0.mod.kin.keeps λ b o e=>(e0.bs b o e).1;have lim:s.heap.NoLimit:=e0.mod.nolimit.keeps λ b o e=>(e0.bs b o e).1
 have hkind:∀ y∈ps.zip us,scope.names.lookup y.1=some .local\/(scope.names.lookup y.1=some .cell/\((cellsFrom (s.heap.objs.size+1) scope.names []).lookup y.1).isSome=true):=λ ⟨n,v⟩ hy=>by
  rcases S.par n (ON hy).1 with q|q
  ·exact .inl q
  ·exact .inr ⟨q,W.cellsFrom_some _ _ _ (.inl q)⟩
 refine codeAny_call_function hr.depth (KX _ _ lk) rfl S.co S.gen rfl (W.codeRec_of KX hcd) (hb _ _ _ _ ?_);refine wpAny_newFunctionEnv_cells S.kind hkind λ env he s1 x=>?_;subst he;refine⟨lim.keeps x.toInCall.keep,codeAny_func ?_⟩;obtain⟨t,ht,hq⟩:=hbody A outer s H vs Q E (hr.deeper _) hsp;have I:Inv (yp CX P w K mg base N qual scope f cdv A outer s H E) [] (aE N vs) H s1:=xE S hr.hd e0 hl r x;refine Oq (ht [] s1 (aE N vs) H _ I hq) (λ fl s' hs=>?_) λ e s' hs=>hs
 have fin:∀ {σ':St} {H':Hp} {v:V} {u:Value},Inv (yp CX P w K mg base N qual scope f cdv A outer s H E) [] σ' H' s'->bF v u->Q v H'->CE outer P w H s Q u s':=
  λ {σ' H' v u} J rv q=>⟨v,H',J.os,J.bare,J.base,J.hok,rv,q⟩
 cases fl with
 | ret u=>
  obtain⟨v,σ',H',J,rv,q⟩:=hs;exact fin J rv q
 | next=>
  obtain⟨σ',H',J,q⟩:=hs;exact fin (v:=V.non) (u:=Value.none) J rfl q
 | brk=>
  obtain⟨_,_,_,q⟩:=hs;exact False.elim q
 | cont=>
  obtain⟨_,_,_,q⟩:=hs;exact False.elim q
section
variable {X:Cx}{x:Str}{p pos:Pos}{e:Expr}{es:List Expr}{t:TA}{id T:String}{r:List V->Hp->VK->Prop}
def tCB(r:List V->Hp->VK->Prop)(t:TA):TE:=λ σ H Q=>t σ H λ vs H1=>r vs H1 Q
theorem ik(hc:bD X (.builtin id) r)(hg:Gl X x)(hm:X.mg x=none)(hv:bootBuiltins x=some (.builtin id))(ha:PA X (e::es) t)(hn:x ≠ "__name__":=by decide)(hdb:(x == ("__debug__":Str))=false:=by decide)
  (he:starEach (e::es) X.env=(false,eval e X.env)::starEach es X.env:=by rfl) (hpl:(backTo pos (starEach es X.env)).any (·.1)=false:=by rfl):PE X (.Call (.Name x p) (e::es) [] pos) (tCB r t):=by
 intro pins s σ H Q I h;refine NY (gj I hg hm hv ?_ hn hdb);exact PyProof.Rows.callWith_builtin1 (thn (ha pos pins s σ H _ I h) λ us s1 ⟨vs,H1,I1,r1,q1⟩=>hc pins s1 σ H1 vs us Q I1 r1 q1) he hpl
theorem wC(hc:bD X (.type T) r)(hg:Gl X x)(hm:X.mg x=none)(hv:bootBuiltins x=some (.type T))(ha:PA X (e::es) t)(hn:x ≠ "__name__":=by decide)(hdb:(x == ("__debug__":Str))=false:=by decide)
  (he:starEach (e::es) X.env=(false,eval e X.env)::starEach es X.env:=by rfl) (hpl:(backTo pos (starEach es X.env)).any (·.1)=false:=by rfl):PE X (.Call (.Name x p) (e::es) [] pos) (tCB r t):=by
 intro pins s σ H Q I h;refine NY (gj I hg hm hv ?_ hn hdb);exact NB (thn (ha pos pins s σ H _ I h) λ us s1 ⟨vs,H1,I1,r1,q1⟩=>hc pins s1 σ H1 vs us Q I1 r1 q1) he hpl
end
end L2
namespace HT
open PySem PyProof.Rows
section
open PySem.SeqAt
open PySem.AutoSeq1 (wpAny_loadPart')
open PySem.MeetsSeq PySem.MeetsSeq2 PySem.MeetsSeq3
end
section
variable {prog:Program}{w:World}{A:Around}{E:Value->Shared->Prop}{s:Shared}
theorem cat_tup{t b:Addr}{vs ws:List Value}{Q:Value->Shared->Prop}(ht:IsTup s.heap t vs.toArray)(hb:IsTup s.heap b ws.toArray)(hv:vs ≠ [])
  (h1:ws=[]->Q (.ref t) s) (h2:ws ≠ []->Q (.ref s.heap.objs.size) { s with heap:=s.heap.push { cls:=.type "tuple",data:=.seq (vs++ws).toArray } })
  (hsz:vs.length+ws.length<=sizeLine):wpAny (model prog w) A (binaryOp .Add (.ref t) (.ref b)) Q E s:=by
 obtain⟨⟨cls,dd,data,sl⟩,ho,hc,n,hd⟩:=id ht;obtain⟨⟨cls2,dd2,data2,sl2⟩,ho2,hc2,n2,hd2⟩:=id hb;simp only at hc hd hc2 hd2;subst hc hd hc2 hd2;have e:vs.toArray++ws.toArray=(vs++ws).toArray:=by simp
 by_cases hw:ws=[]
 ·exact concat_meets ⟨_,ho,rfl⟩ ⟨_,ho2,rfl⟩ noFill_tuple_add seq_tuple_add O2 OW (OT _ _)
   (tuple_addW1 t b vs.toArray ws.toArray n n2 dd dd2 sl sl2 (by simpa using hv) (by simp [hw])) ⟨ho,ho2,h1 hw⟩
 ·refine concat_meets ⟨_,ho,rfl⟩ ⟨_,ho2,rfl⟩ noFill_tuple_add seq_tuple_add O2 OW (OT _ _)
   (tuple_addW2 t b vs.toArray ws.toArray n n2 dd dd2 sl sl2 (by simpa using hv) (by simpa using hw) (by rw [MW,MW];exact hsz)) ⟨ho,ho2,?_⟩
  rw [e];exact h2 hw
def sIx(n d:Nat):Option Int->Nat
 | none=>d
 | some v=>if v < 0 then (v+(n:Int)).toNat else min v.toNat n
theorem sIx_none(n d:Nat):sIx n d none=d:=rfl
theorem sIx_nat(n d k:Nat):sIx n d (some (k:Int))=min k n:=by
 show (if (k:Int) < 0 then ((k:Int)+(n:Int)).toNat else min (k:Int).toNat n)=min k n
 rw [MH (by omega),Nv]
end
end HT
namespace L2
open PySem PySem.Spec PyProof.Rows
abbrev TO:=St->Hp->(Option Int->Hp->Prop)->Prop
def PO(X:Cx)(e:Option Expr)(t:TO):Prop:=
 ∀ (pins:List (Addr × Obj)) (s:Shared) (σ:St) (H:Hp) (Q:Option Int->Hp->Prop),Inv X pins σ H s->t σ H Q →
  wpAny (model X.prog X.w) X.A (evalPart e X.env) (λ u s'=>∃ o H',Inv X pins σ H' s'/\IsPart u o/\Q o H') X.xe s
def vq:TO:=λ _ H Q=>Q none H
def Fh(t:TE):TO:=λ σ H Q=>t σ H λ x H1=>∃ i,x=.int i/\Q (some i) H1
section
variable {X:Cx}{e:Expr}{te:TE}{lo hi:Option Expr}{tl th:TO}{pos p2:Pos}
theorem fO:PO X none vq:=by
 intro pins s σ H Q I h;rw [evalPart_none];exact MM ⟨none,H,I,.none,h⟩
theorem fN(h:PE X e te):PO X (some e) (Fh te):=by
 intro pins s σ H Q I hw;rw [evalPart_some];refine thn (h pins s σ H _ I hw) λ u s1 ⟨x,H1,I1,r1,q1⟩=>?_;obtain⟨i,rfl,q⟩:=q1;obtain⟨t,rfl⟩:=r1;exact⟨some i,H1,I1,.int i t,q⟩
def SlR(X:Cx)(r:V->Option Int->Option Int->Hp->VK->Prop):Prop:=
 ∀ (pins:List (Addr × Obj)) (s:Shared) (σ:St) (H:Hp) (x:V) (v vl vu:Value) (lo hi:Option Int) (sl:Addr) (Q:VK),Inv X pins σ H s->bF x v->s.heap.IsSliceOf sl vl vu .none->IsPart vl lo->IsPart vu hi->r x lo hi H Q →
  ∃ T id,typeLookup (.type T) "__getitem__"=pure (some (.builtin id))/\s.TypeIs v T/\wpAny (model X.prog X.w) X.A (getItem v (.ref sl)) (EP X pins σ Q) X.xe s
def tSl(r:V->Option Int->Option Int->Hp->VK->Prop)(te:TE)(tl th:TO):TE:=λ σ H Q=>te σ H λ x H1=>tl σ H1 λ l H2=>th σ H2 λ u H3=>r x l u H3 Q
theorem zc{r:V->Option Int->Option Int->Hp->VK->Prop}(hr:SlR X r)(he:PE X e te)(hl:PO X lo tl)(hu:PO X hi th):PE X (.Subscript e (.Slice lo hi none p2) pos) (tSl r te tl th):=by
 intro pins s σ H Q I h;refine Subscript_ (thn (he pins s σ H _ I h) λ v s1 ⟨x,H1,I1,r1,q1⟩=>?_);refine wpAny_Slice (thn (hl pins s1 σ H1 _ I1 q1) λ vl s2 ⟨l,H2,I2,pl,q2⟩=>thn (hu pins s2 σ H2 _ I2 q2) λ vu s3 ⟨u,H3,I3,pu,q3⟩=>?_);rw [evalPart_none];refine MM ?_;have I4:Inv X pins σ H3 { s3 with heap:=s3.heap.push { cls:=.type "slice",data:=.fields #[vl,vu,.none] } }:=I3.kept (t':=s3.toks) λ b ob q=>Mz _ q;obtain⟨T,id,hT,ht,hg⟩:=hr pins { s3 with heap:=s3.heap.push { cls:=.type "slice",data:=.fields #[vl,vu,.none] } } σ H3 x v vl vu l u s3.heap.objs.size Q I4 r1 (Heap.IsSliceOf.new ..) pl pu q3
 show wpAny (model X.prog X.w) X.A (subscriptTail e (.Slice lo hi none p2) v (.ref s3.heap.objs.size)) (EP X pins σ Q) X.xe { s3 with heap:=s3.heap.push { cls:=.type "slice",data:=.fields #[vl,vu,.none] } }
 exact tail_any (ops:=[.ref s3.heap.objs.size,v]) ht hT hg (by with_unfolding_all rfl)
def kg(xs:List V)(lo hi:Option Int):List V:=(xs.drop (HT.sIx xs.length 0 lo)).take (HT.sIx xs.length xs.length hi - HT.sIx xs.length 0 lo)
theorem p8(xs:List V)(lo hi:Option Int):(kg xs lo hi).length<=xs.length:=by
 unfold kg;rw [length_take,length_drop];omega
def JX(K:W.Frag):R2:=λ x y H Q=>∃ a b xs ys,x=.ref a/\y=.ref b/\SqT K H a xs/\SqT K H b ys/\xs ≠ []/\xs.length+ys.length<=sizeLine /\
 (ys=[]->Q (.ref a) H)/\(ys ≠ []->∀ p,H p=none->Q (.ref p) (upd H p (.tup (xs++ys))))
theorem bq.nil_iff{xs:List V}{us:List Value}(r:bq xs us):us=[] ↔ xs=[]:=by
 cases r with
 | nil=>simp
 | cons _ _=>simp
theorem C8:OpR X (binaryOp .Add) (JX X.K):=by
 intro pins s σ H x y v u Q I rx ry h;obtain⟨a,b,xs,ys,rfl,rfl,ha,hb,hx,hz,q1,q2⟩:=h;cases rx;cases ry;obtain⟨its,r1,p1,_⟩:=I.tuple ha;obtain⟨its2,r2,p2,_⟩:=I.tuple hb;refine HT.cat_tup p1 p2 (λ z=>hx (r1.nil_iff.mp z)) (λ z=>⟨.ref a,H,I,rfl,q1 (r2.nil_iff.mp z)⟩) (λ z=>?_) (by rw [←r1.length,←r2.length];exact hz);refine⟨.ref s.heap.objs.size,_,I.laid (t':=s.toks) (o:=.tup (xs++ys)) (λ b ob q=>Mz _ q) (MG _) ?_,rfl,q2 (λ w=>z (r2.nil_iff.mpr w)) _ (I.hok.fresh (MG _))⟩;exact⟨by rw [ML];exact hz,_,r1.append r2,IsTup.new _ _⟩
end
def ixN(n:Nat)(i:Int):Option Nat:=if 0<=i then (if i < n then some i.toNat else none) else if -(n:Int)<=i then some (i+n).toNat else none
def atI{α:Type}(xs:List α)(i:Int):Option α:=(ixN xs.length i).bind λ j=>xs[j]?
theorem vN{n:Nat}{i:Int}{j:Nat}(h:ixN n i=some j):seqIndex? i n=some j/\j < n/\-(n:Int)<=i/\i < n:=by
 unfold ixN at h
 by_cases h0:0<=i
 ·rw [MI h0] at h
  by_cases h1:i < n
  ·rw [MI h1] at h;have e:i.toNat=j:=Nh h;exact⟨by rw [seqIndex_of h0 h1,e],by omega,by omega,h1⟩
  ·rw [MH h1] at h;cases h
 ·rw [MH h0] at h
  by_cases h1:-(n:Int)<=i
  ·rw [MI h1] at h;have e:(i+n).toNat=j:=Nh h;exact⟨by rw [seqIndex_neg (by omega) h1,e],by omega,h1,by omega⟩
  ·rw [MH h1] at h;cases h
theorem we{α:Type}{xs:List α}{i:Int}{v:α}(h:atI xs i=some v):∃ j,seqIndex? i xs.length=some j/\xs[j]? = some v/\j < xs.length/\-(xs.length:Int)<=i/\i < xs.length:=by
 unfold atI at h
 cases e:ixN xs.length i with
 | none=>rw [e] at h;cases h
 | some j=>
  rw [e] at h;obtain⟨h1,h2,h3,h4⟩:=vN e;exact⟨j,h1,h,h2,h3,h4⟩
theorem fQ{α:Type}{xs:List α}{j:Nat}{v:α}(h:xs[j]? = some v):atI xs (j:Int)=some v:=by
 have hj:j < xs.length:=(MB.mp h).1
 have e:ixN xs.length (j:Int)=some j:=by
  unfold ixN;rw [if_pos (by omega),if_pos (by omega)];simp
 unfold atI;rw [e];exact h
def EM(b:Expr):Prop:=∀ o i,subscripted b false o i=operate [o,i] (getItem o i)
def IxR(X:Cx)(r:R2):Prop:=
 ∀ (value slice:Expr) (pins:List (Addr × Obj)) (s:Shared) (σ:St) (H:Hp) (x y:V) (v u:Value) (Q:VK),Inv X pins σ H s->bF x v->bF y u->r x y H Q →
  subscripted slice false v u=operate [v,u] (getItem v u)->wpAny (model X.prog X.w) X.A (subscriptTail value slice v u) (EP X pins σ Q) X.xe s
def MtR(X:Cx)(id:String)(r:V->List V->Hp->VK->Prop):Prop:=
 ∀ (pins:List (Addr × Obj)) (s:Shared) (σ:St) (H:Hp) (x:V) (xs:List V) (v:Value) (us:List Value) (Q:VK),Inv X pins σ H s->bF x v->bq xs us->r x xs H Q →
  wpAny (model X.prog X.w) X.A (call (.builtin id) (v::us)) (EP X pins σ Q) X.xe s
section
variable {X:Cx}{a b:Expr}{ta tb:TE}{pos:Pos}
theorem IxR.or{r r':R2}(h:IxR X r)(h':IxR X r'):IxR X (λ x y H Q=>r x y H Q\/r' x y H Q):=by
 intro value slice pins s σ H x y v u Q I rx ry q hs
 rcases q with q|q
 ·exact h value slice pins s σ H x y v u Q I rx ry q hs
 ·exact h' value slice pins s σ H x y v u Q I rx ry q hs
theorem BW{r:R2}(hr:IxR X r)(ha:PE X a ta)(hb:PE X b tb)(hs:EM b):PE X (.Subscript a b pos) (tOp r ta tb):=by
 intro pins s σ H Q I h;exact Subscript_ (JP ha hb I h λ v u s2 x y H2 I2 rx ry q=>hr a b pins s2 σ H2 x y v u Q I2 rx ry q (hs _ _))
def L8(K:W.Frag):R2:=λ x y H Q=>∃ p xs i v,x=.ref p/\y=.int i/\SqL K H p xs/\atI xs i=some v/\Q v H
def L7(K:W.Frag):R2:=λ x y H Q=>∃ p xs i v,x=.ref p/\y=.int i/\SqT K H p xs/\atI xs i=some v/\Q v H
theorem pI:IxR X (L8 X.K):=by
 intro value slice pins s σ H x y v u Q I rx ry h hs;obtain⟨p,xs,i,z,rfl,rfl,hq,he,q⟩:=h;cases rx;obtain⟨t,rfl⟩:=ry;obtain⟨its,r,pl,hz⟩:=I.list hq;obtain⟨j,h1,h2,h3,h4,h5⟩:=we he;obtain⟨w,ew,rw'⟩:=r.get h2;have hl:=r.length;have hn:=mD;have fin:EP X pins σ Q w s:=⟨z,H,I,rw',q⟩
 by_cases h0:0<=i
 ·have hj:i.toNat=j:=by
   rw [seqIndex_of h0 h5] at h1;exact Nh h1
  exact item_listR pl.isList h0 (by omega) (by rw [hj];simpa using ew) fin hs
 ·have hj:(i+(its.toArray.size:Int)).toNat=j:=by
   rw [seqIndex_neg (by omega) h4] at h1;rw [MW,←hl];exact Nh h1
  exact subscriptTail_builtinR (x:=w) pl.isList.typeIs slot_list_getitem.lookup
   (wpAny_getItem_list_neg (Q:=λ r s'=>r=w/\EP X pins σ Q r s') pl.isList (by omega) (by rw [MW]<;>omega) (by omega) (by rw [hj];simpa using ew) ⟨rfl,fin⟩) hs
theorem Iy:IxR X (L7 X.K):=by
 intro value slice pins s σ H x y v u Q I rx ry h hs;obtain⟨p,xs,i,z,rfl,rfl,hq,he,q⟩:=h;cases rx;obtain⟨t,rfl⟩:=ry;obtain⟨its,r,pl,hz⟩:=I.tuple hq;obtain⟨j,h1,h2,h3,h4,h5⟩:=we he;obtain⟨w,ew,rw'⟩:=r.get h2;have hl:=r.length;have hn:=mD;have fin:EP X pins σ Q w s:=⟨z,H,I,rw',q⟩
 exact subscriptTail_builtinR (x:=w) pl.typeIs slot_tuple_getitem.lookup
  (getItem_tuple (j:=j) (Q:=λ r s'=>r=w/\EP X pins σ Q r s') pl (by omega) (by omega) (by rw [MW,←hl];exact h1) (by simpa using ew) ⟨rfl,fin⟩) hs
theorem sV(its:List Value)(n j:Nat)(u:Value):Obj.mapSeq (·.setIfInBounds j u) { cls:=.type "list",data:=.seq its.toArray n }={ cls:=.type "list",data:=.seq (its.set j u).toArray n }:=by
 simp [Obj.mapSeq]
theorem Inv.lst{pins:List (Addr × Obj)}{σ:St}{H:Hp}{s:Shared}{p:Addr}{xs:List V}(I:Inv X pins σ H s)(h:H p=some (.lst xs)) :
  ∃ (its:List Value) (n:Nat),bq xs its/\s.heap.get? p=some { cls:=.type "list",data:=.seq its.toArray n }/\xs.length<=sizeLine:=by
 obtain⟨z,its,n,r,e⟩:=I.hok p _ h;exact⟨its,n,r,e,z⟩
theorem Inv.lstUpd{pins:List (Addr × Obj)}{σ:St}{H:Hp}{s:Shared}{p:Addr}{xs ys:List V}{its its':List Value}{n n':Nat}{f:Obj->Obj}(I:Inv X pins σ H s)(h:H p=some (.lst xs))
  (ho:s.heap.get? p=some { cls:=.type "list",data:=.seq its.toArray n }) (hf:f { cls:=.type "list",data:=.seq its.toArray n }={ cls:=.type "list",data:=.seq its'.toArray n' }) (r:bq ys its') (hz:ys.length<=sizeLine) (t:Nat) :
  Inv X pins σ (upd H p (.lst ys)) { s with heap:=s.heap.update p f,toks:=t }:=by
 have e:(s.heap.update p f).get? p=some { cls:=.type "list",data:=.seq its'.toArray n' }:=by
  rw [NN f ho (by rw [hf]<;>rfl),hf]
 refine I.write (x:=p) (e:=p) (by rw [h];trivial) (.inl rfl) (λ b u hb q=>(NW _ _ (Nd hb)).trans q) ⟨_,e⟩ ?_;exact⟨hz,its',n',r,e⟩
def Ft:V->V->V->Hp->(Hp->Prop)->Prop:=λ o i v H Q=>∃ p xs k j,o=.ref p/\i=.int k/\H p=some (.lst xs)/\ixN xs.length k=some j/\Q (upd H p (.lst (xs.set j v)))
theorem qR:LQ X Ft:=by
 intro pins s σ H o i v ov iv u Q I ro ri rv h;obtain⟨p,xs,k,j,rfl,rfl,hp,hj,q⟩:=h;cases ro;obtain⟨t,rfl⟩:=ri;obtain⟨its,n,r,ho,hz⟩:=I.lst hp;obtain⟨h1,h2,h3,h4⟩:=vN hj;have hl:=r.length;have hn:=mD
 have I':Inv X pins σ (upd H p (.lst (xs.set j v))) { s with heap:=s.heap.update p (Obj.mapSeq (·.setIfInBounds j u)) }:=
  I.lstUpd hp ho (sV its n j u) (r.set rv j) (by rw [Pm];exact hz) s.toks
 by_cases h0:0<=k
 ·have hk:k.toNat=j:=by
   rw [seqIndex_of h0 h4] at h1;exact Nh h1
  exact W.ki_setAt ho h0 (by omega) (by rw [MW,←hl];exact h4) (by rw [hk];exact⟨_,I',q⟩)
 ·have hk:(k+(its.toArray.size:Int)).toNat=j:=by
   rw [seqIndex_neg (by omega) h3] at h1;rw [MW,←hl];exact Nh h1
  exact W.ki_setBack ho (by omega) (by rw [MW,←hl];exact h3) (by omega) (by rw [hk];exact⟨_,I',q⟩)
theorem nO(lo hi:Option Int)(n:Nat):(sliceBounds lo hi none n).1=((HT.sIx n 0 lo:Nat):Int)/\(sliceBounds lo hi none n).2.1=((HT.sIx n n hi:Nat):Int)/\(sliceBounds lo hi none n).2.2=1:=by
 refine⟨?_,?_,rfl⟩
 ·cases lo with
  | none=>simp [sliceBounds,HT.sIx]
  | some i=>
   simp only [sliceBounds,HT.sIx,Option.getD_none,show (1:Int) > 0 by decide,PM]
   by_cases h:i < 0
   ·simp only [h,PM]<;>omega
   ·simp only [h,if_false]<;>omega
 ·cases hi with
  | none=>simp [sliceBounds,HT.sIx]
  | some i=>
   simp only [sliceBounds,HT.sIx,Option.getD_none,show (1:Int) > 0 by decide,PM]
   by_cases h:i < 0
   ·simp only [h,PM]<;>omega
   ·simp only [h,if_false]<;>omega
theorem lP(its:List Value)(lo hi:Option Int):slicePick its.toArray lo hi none=((its.drop (HT.sIx its.length 0 lo)).take (HT.sIx its.length its.length hi - HT.sIx its.length 0 lo)).toArray:=by
 obtain⟨h1,h2,h3⟩:=nO lo hi its.toArray.size;unfold slicePick;rw [h1,h2,h3]
 simp only [sliceRange_one,pick_run,MW]<;>rfl
def L5(K:W.Frag):V->Option Int->Option Int->Hp->VK->Prop:=λ x lo hi H Q=>∃ a xs,x=.ref a/\SqL K H a xs/\∀ p,H p=none->Q (.ref p) (upd H p (.lst (kg xs lo hi)))
theorem Cy:SlR X (L5 X.K):=by
 intro pins s σ H x v vl vu lo hi sl Q I rx hs pl pu h;obtain⟨a,xs,rfl,hx,q⟩:=h;cases rx;obtain⟨its,r,ht,hz⟩:=I.list hx;have hlen:=r.length;refine⟨"list",_,slot_list_getitem.lookup,ht.isList.typeIs,?_⟩;refine wpAny_getItem_list_slice ht.isList hs pl pu .none (by simp) ?_ (by rw [MW]<;>omega);rw [lP,←hlen];refine⟨.ref s.heap.objs.size,_,I.laid (t':=s.toks) (o:=.lst (kg xs lo hi)) (λ b ob q=>Mz _ q) (MG _) ?_,rfl,q _ (I.hok.fresh (MG _))⟩;exact⟨Nm (p8 xs lo hi) hz,_,0,(r.drop (HT.sIx xs.length 0 lo)).take (HT.sIx xs.length xs.length hi - HT.sIx xs.length 0 lo),MO _ rfl⟩
theorem dr:bD X (.builtin "len") (λ xs H Q=>∃ p ys,xs=[.ref p]/\(SqL X.K H p ys\/SqT X.K H p ys)/\Q (.int ys.length) H):=by
 intro pins s σ H xs us Q I r h;obtain⟨p,ys,rfl,hq,q⟩:=h;obtain⟨u,rfl,rx⟩:=oJ r;cases rx;have hn:=mD
 rcases hq with hq|hq
 ·obtain⟨its,r',pl,hz⟩:=I.list hq;have hlen:=r'.length;exact Calls.call_len_list pl.isList (by simp only [MW]<;>omega) ⟨.int ys.length,H,I.tok _,⟨s.toks+1,by rw [MW,hlen]⟩,q⟩
 ·obtain⟨its,r',pl,hz⟩:=I.tuple hq;have hlen:=r'.length;exact len_tuple pl (by simp only [MW]<;>omega) ⟨.int ys.length,H,I.tok _,⟨s.toks+1,by rw [MW,hlen]⟩,q⟩
theorem oi:bD X (.builtin "len") (λ xs H Q=>∃ z,xs=[.str z]/\z.length<=sizeLine/\Q (.int z.length) H):=by
 intro pins s σ H xs us Q I r h;obtain⟨z,rfl,hz,q⟩:=h;obtain⟨u,rfl,t,rfl⟩:=oJ r;have hn:=mD;exact len_str (by omega) ⟨.int z.length,H,I.tok _,⟨_,rfl⟩,q⟩
theorem bD.or{f:Value}{r r':List V->Hp->VK->Prop}(h:bD X f r)(h':bD X f r'):bD X f (λ xs H Q=>r xs H Q\/r' xs H Q):=by
 intro pins s σ H xs us Q I rs q
 rcases q with q|q
 ·exact h pins s σ H xs us Q I rs q
 ·exact h' pins s σ H xs us Q I rs q
theorem oh:bD X (.type "list") (λ xs H Q=>∃ p ys,xs=[.ref p]/\(SqL X.K H p ys\/SqT X.K H p ys)/\∀ l,H l=none->Q (.ref l) (upd H l (.lst ys))):=by
 intro pins s σ H xs us Q I r h;obtain⟨p,ys,rfl,hq,q⟩:=h;obtain⟨u,rfl,rx⟩:=oJ r;cases rx
 have fin:∀ (its:List Value),bq ys its->ys.length<=sizeLine->∀ (h':Heap) (c':Nat),(∀ b o',s.heap.get? b=some o'->h'.get? b=some o') →
   h'.get? s.heap.objs.size=some { cls:=.type "list",dict:=none,data:=.seq its.toArray c',slots:=#[] }->EP X pins σ Q (.ref s.heap.objs.size) { s with heap:=h' }:=λ its r' hz h' c' kp e=>
  ⟨.ref s.heap.objs.size,_,I.laid (t':=s.toks) kp (MG _) (show bK X.prog X.w _ h' _ (.lst ys) from ⟨hz,its,c',r',e⟩),rfl,q _ (I.hok.fresh (MG _))⟩
 rcases hq with hq|hq
 ·obtain⟨its,r',pl,hz⟩:=I.list hq;have hlen:=r'.length;obtain⟨o,ho,hc,n,hd⟩:=pl.isList;exact call_list_seq p (.inl rfl) ho hc hd (λ h' c' kp e=>fin its r' hz h' c' kp e) (by simp only [MW]<;>omega)
 ·obtain⟨its,r',pl,hz⟩:=I.tuple hq;have hlen:=r'.length;obtain⟨o,ho,hc,n,hd⟩:=pl;exact call_list_seq p (.inr rfl) ho hc hd (λ h' c' kp e=>fin its r' hz h' c' kp e) (by simp only [MW]<;>omega)
theorem mh:bD X (.type "tuple") (λ xs H Q=>∃ p ys,xs=[.ref p]/\((SqL X.K H p ys/\∀ l,H l=none->Q (.ref l) (upd H l (.tup ys)))\/(SqT X.K H p ys/\Q (.ref p) H))):=by
 intro pins s σ H xs us Q I r h;obtain⟨p,ys,rfl,h⟩:=h;obtain⟨u,rfl,rx⟩:=oJ r;cases rx
 rcases h with ⟨hq,q⟩|⟨hq,q⟩
 ·obtain⟨its,r',pl,hz⟩:=I.list hq;have hlen:=r'.length;refine call_tuple_list pl.isList (λ h' kp=>?_) (by simp only [MW]<;>omega);have I1:Inv X pins σ H { s with heap:=h' }:=I.kept (t':=s.toks) kp
  have I2:Inv X pins σ (upd H h'.objs.size (.tup ys)) { s with heap:=h'.push { cls:=.type "tuple",data:=.seq its.toArray } }:=
   I1.laid (t':=s.toks) (λ b o e=>Mz _ e) (MG _) (show bK X.prog X.w _ _ _ (.tup ys) from ⟨hz,its,r',IsTup.new _ _⟩)
  exact⟨.ref h'.objs.size,_,I2,rfl,q _ (I1.hok.fresh (MG _))⟩
 ·obtain⟨its,r',pl,hz⟩:=I.tuple hq;exact call_tuple_same pl ⟨.ref p,H,I,rfl,q⟩
def tyV(K:W.Frag)(T:String)(x:V)(H:Hp):Prop:=match x with
 | .str _=>T = "str"
 | .int _=>T = "int"
 | .ref p=>(T = "list" /\ ∃ xs,SqL K H p xs)\/(T = "tuple" /\ ∃ o,K.lookup p=some o/\o.cls=.type "tuple" /\ o.dict=none) \/
   (T = "dict" /\ ((∃ kvs,H p=some (.dK kvs))\/∃ kvs,H p=some (.dT kvs)))\/(T = "set" /\ ∃ S n,H p=some (.set S n))
 | _=>False
theorem Bb{pins:List (Addr × Obj)}{σ:St}{H:Hp}{s:Shared}{T:String}{x:V}{v:Value}(I:Inv X pins σ H s)(r:bF x v)(ty:tyV X.K T x H) :
  s.TypeIs v T/\∀ a,v=.ref a->∃ ob,s.heap.get? a=some ob/\ob.dict=none:=by
 cases x with
 | str z=>
  obtain⟨t,rfl⟩:=r;cases (show T = "str" from ty);exact⟨typeIs_str s z t,λ _ e=>nomatch e⟩
 | int i=>
  obtain⟨t,rfl⟩:=r;cases (show T = "int" from ty);exact⟨typeIs_int s i t,λ _ e=>nomatch e⟩
 | ref p=>
  cases r
  rcases ty with ⟨rfl,xs,hq⟩|⟨rfl,o,hk,hc,hd⟩|⟨rfl,hk⟩|⟨rfl,S,n,hk⟩
  ·obtain⟨its,_,pl,_⟩:=I.list hq;refine⟨pl.isList.typeIs,λ a e=>?_⟩;cases e;obtain⟨o,n,e,c,hd,_⟩:=pl;exact⟨o,e,hd⟩
  ·refine⟨⟨o,I.kIn p o hk,hc⟩,λ a e=>?_⟩;cases e;exact⟨o,I.kIn _ o hk,hd⟩
  ·have z:∃ o,s.heap.get? p=some o/\o.ExactDict:=by
    rcases hk with ⟨kvs,hk⟩|⟨kvs,hk⟩
    ·obtain⟨_,_,_,_,o,_,_,e,ex,_⟩:=I.hok p _ hk;exact⟨o,e,ex⟩
    ·obtain⟨_,_,_,_,o,_,_,e,ex,_⟩:=I.hok p _ hk;exact⟨o,e,ex⟩
   obtain⟨o,e,ex⟩:=z;refine⟨⟨o,e,ex.1⟩,λ a e2=>?_⟩;cases e2;exact⟨o,e,ex.2.1⟩
  ·obtain⟨o,_,_,_,e,ex,_⟩:=I.hok p _ hk;refine⟨⟨o,e,ex.1⟩,λ a e2=>?_⟩;cases e2;exact⟨o,e,ex.2.1⟩
 | _=>exact False.elim ty
def La(K:W.Frag)(T:String)(r:V->List V->Hp->VK->Prop)(to:TE):TE:=λ σ H Q=>to σ H λ x H1=>tyV K T x H1/\r x [] H1 Q
def tBM(K:W.Frag)(T:String)(r:V->List V->Hp->VK->Prop)(to:TE)(t:TA):TE:=λ σ H Q=>to σ H λ x H1=>tyV K T x H1/\t σ H1 λ xs H2=>r x xs H2 Q
variable {o e:Expr}{es:List Expr}{to:TE}{t:TA}{name:Str}{apos cpos:Pos}{T id:String}{r:V->List V->Hp->VK->Prop}
theorem qw(pa:PlainAttrs T)(slot:Slot T name id)(hty:typeOf (.builtin id)=pure (.type "method_descriptor"))(hm:MtR X id r)(ho:PE X o to)
  (hbase:attributeBase o name X.env (eval o X.env)=eval o X.env:=by rfl) (hline:(apos.endLine == cpos.line)=true:=by rfl):PE X (.Call (.Attribute o name apos) [] [] cpos) (La X.K T r to):=by
 intro pins s σ H Q I h;refine wpAny_Call_method0_late hbase hline (thn (ho pins s σ H _ I h) λ v s1 ⟨x,H1,I1,r1,ty,q1⟩=>?_);obtain⟨h1,h2⟩:=Bb I1 r1 ty;exact⟨T,id,pa,slot,hty,h1,h2,Pl rfl (PySem.evalArgs_none (hm pins s1 σ H1 x [] v [] Q I1 r1 .nil q1))⟩
theorem J0(pa:PlainAttrs T)(slot:Slot T name id)(hty:typeOf (.builtin id)=pure (.type "method_descriptor"))(hm:MtR X id r)(ho:PE X o to)(ha:PA X (e::es) t)
  (hbase:attributeBase o name X.env (eval o X.env)=eval o X.env:=by rfl)
  (hfew:((backTo cpos (starEach (e::es) X.env)).all (λ x=>!x.1) && (backToKw cpos (keywordEach [] X.env)).all (λ x=>x.1.isSome)
   && decide ((e::es).length+([]:List Keyword).length+(if ([]:List Keyword).isEmpty then 0 else 1) < 30))=true:=by rfl)
  (hline:(apos.endLine == cpos.line)=true:=by rfl) (hs:starEach (e::es) X.env=(false,eval e X.env)::starEach es X.env:=by rfl) (hplain:(backTo cpos (starEach es X.env)).any (·.1)=false:=by rfl) :
  PE X (.Call (.Attribute o name apos) (e::es) [] cpos) (tBM X.K T r to t):=by
 intro pins s σ H Q I h;refine wpAny_Call_method_late hbase hfew hline rfl (thn (ho pins s σ H _ I h) λ v s1 ⟨x,H1,I1,r1,ty,q1⟩=>?_);obtain⟨h1,h2⟩:=Bb I1 r1 ty;refine⟨T,id,pa,slot,hty,h1,h2,?_⟩;have hA:=ha cpos pins s1 σ H1 _ I1 q1;rw [hs] at hA ⊢;refine Pl (by show (false || (backTo cpos (starEach es X.env)).any (·.1))=false;rw [hplain]<;>rfl) (Pr ?_);exact thn hA λ us s2 ⟨vs,H2,I2,r2,q2⟩=>hm pins s2 σ H2 x vs v us Q I2 r1 r2 q2
end
def MtM(X:Cx)(id:String)(r:V->List V->Hp->VK->Prop):Prop:=
 ∀ (pins:List (Addr × Obj)) (s:Shared) (σ:St) (H:Hp) (x:V) (xs:List V) (v:Value) (us:List Value) (Q:VK),Inv X pins σ H s->bF x v->bq xs us->r x xs H Q →
  wpAny (model X.prog X.w) X.A (call (.builtin id) (v::us)) (EP X pins σ Q) X.xe s
theorem bq.one:∀ {x:V}{us:List Value},bq [x] us->∃ u,us=[u]/\bF x u
 | _,_,.cons r .nil=>⟨_,rfl,r⟩
theorem bq.zero:∀ {us:List Value},bq [] us->us=[]
 | _,.nil=>rfl
theorem bq.dropLast{xs:List V}{us:List Value}(h:bq xs us):bq xs.dropLast us.dropLast:=by
 induction h with
 | nil=>exact .nil
 | cons r t ih=>
  cases t with
  | nil=>exact .nil
  | cons q t'=>exact .cons r ih
theorem bq.reverse{xs:List V}{us:List Value}(h:bq xs us):bq xs.reverse us.reverse:=by
 induction h with
 | nil=>exact .nil
 | cons r t ih=>rw [Pq,Pq];exact bq.append ih (.cons r .nil)
theorem tU{α:Type}(l:List α):l.eraseIdx (l.length - 1)=l.dropLast:=by
 induction l with
 | nil=>rfl
 | cons a r ih=>
  cases r with
  | nil=>rfl
  | cons b r=>
   have e:(a::b::r).length - 1=((b::r).length - 1)+1:=by
    have h1:(a::b::r).length=r.length+2:=rfl;have h2:(b::r).length=r.length+1:=rfl;omega
   rw [e,List.eraseIdx_cons_succ,ih]
   all_goals rfl
section
variable {X:Cx}{pins:List (Addr × Obj)}{σ:St}{H:Hp}{s:Shared}{l b:Addr}{xs ys zs:List V}
theorem Inv.lset{its its':List Value}{n:Nat}{f:Array Value->Array Value}{t':Nat}(I:Inv X pins σ H s)(hH:H l=some (.lst xs))
  (e:s.heap.get? l=some { cls:=.type "list",data:=.seq its.toArray n }) (hf:f its.toArray=its'.toArray) (hv:bq ys its') (hz:ys.length<=sizeLine) :
  Inv X pins σ (upd H l (.lst ys)) { s with heap:=s.heap.update l (Obj.mapSeq f),toks:=t' }:=by
 have q:=PySem.IsL.update e f;rw [hf] at q;refine I.write (x:=l) (e:=l) (by rw [hH];exact trivial) (.inl rfl) (λ b' u hb hu=>(NW s.heap (Obj.mapSeq f) (Nd hb)).trans hu) ⟨_,q⟩ ?_;exact⟨hz,its',_,hv,q⟩
theorem Inv.lnew{its:List Value}{t':Nat}(I:Inv X pins σ H s)(hv:bq ys its)(hz:ys.length<=sizeLine) :
  Inv X pins σ (upd H s.heap.objs.size (.lst ys)) { s with heap:=s.heap.push { cls:=.type "list",data:=.seq its.toArray },toks:=t' }:=
 I.laid (λ _ _ q=>Mz _ q) (MG _) ⟨hz,its,0,hv,MO _ rfl⟩
theorem Inv.fresh(I:Inv X pins σ H s):H s.heap.objs.size=none:=I.hok.fresh (MG _)
theorem Inv.lstM(I:Inv X pins σ H s)(hH:H l=some (.lst xs)):xs.length<=sizeLine/\∃ (its:List Value) (n:Nat),bq xs its/\xs.length=its.length/\s.heap.get? l=some { cls:=.type "list",data:=.seq its.toArray n }:=by
 obtain⟨z,its,n,r,e⟩:=I.hok l _ hH;exact⟨z,its,n,r,r.length,e⟩
theorem zq{n:Nat}(h:n<=sizeLine):Builtin.List.listTooLong n=false:=by
 unfold Builtin.List.listTooLong;exact decide_eq_false (by omega)
end
section
variable {X:Cx}
def vC:V->List V->Hp->VK->Prop:=λ x vs H Q=>∃ l xs y,x=.ref l/\vs=[y]/\H l=some (.lst xs)/\xs.length < sizeLine/\Q .non (upd H l (.lst (xs++[y])))
theorem dQ:MtM X "list.append" vC:=by
 intro pins s σ H x vs v us Q I rx rv h;obtain⟨l,xs,y,rfl,rfl,hH,hz,q⟩:=h;cases rx;obtain⟨u,rfl,ru⟩:=rv.one;obtain⟨z,its,n,r,hl,e⟩:=I.lstM hH;refine call_meets F.slot_list_append ⟨_,e,rfl⟩ F.entry_list_append (F.args_list_append_2 _ _) (PySem.list_append l its.toArray n u (by rw [MW];omega)) ⟨e,?_⟩;refine⟨.non,_,I.lset (its':=its++[u]) hH e (by simp) (r.append (.cons ru .nil)) ?_,rfl,q⟩;rw [ML,M8];omega
def vz:V->List V->Hp->VK->Prop:=λ x vs H Q=>∃ l b xs zs,x=.ref l/\vs=[.ref b]/\H l=some (.lst xs)/\H b=some (.lst zs)/\xs.length+zs.length<=sizeLine/\Q .non (upd H l (.lst (xs++zs)))
theorem mV:MtM X "list.extend" vz:=by
 intro pins s σ H x vs v us Q I rx rv h;obtain⟨l,b,xs,zs,rfl,rfl,hH,hB,hz,q⟩:=h;cases rx;obtain⟨u,rfl,ru⟩:=rv.one;cases ru;obtain⟨z,its,n,r,hl,e⟩:=I.lstM hH;obtain⟨z2,its2,n2,r2,hl2,e2⟩:=I.lstM hB;have hsz:its.toArray.size+its2.toArray.size<=sizeLine:=by rw [MW,MW];omega
 have hlong:¬ (!its.toArray.isEmpty && Builtin.List.listTooLong (its.toArray.size+its2.toArray.size))=true:=by
  rw [zq hsz,Bool.and_false];exact MQ
 refine call_meets F.slot_list_extend ⟨_,e,rfl⟩ F.entry_list_extend (F.args_list_extend_2 _ _)
  (AutoSeq1.list_extend_list_list_0 l its.toArray n b its2.toArray n2 hlong (by rw [MW];omega) (by omega)) ⟨e,e2,?_⟩
 refine⟨.non,_,I.lset (its':=its++its2) hH e (by simp) (r.append r2) ?_,rfl,q⟩;rw [ML];omega
def Ld:V->List V->Hp->VK->Prop:=λ x vs H Q=>∃ l xs y,x=.ref l/\vs=[]/\H l=some (.lst xs)/\xs[xs.length - 1]? = some y/\Q y (upd H l (.lst xs.dropLast))
theorem u9:MtM X "list.pop" Ld:=by
 intro pins s σ H x vs v us Q I rx rv h;obtain⟨l,xs,y,rfl,rfl,hH,hy,q⟩:=h;cases rx;have hus:=rv.zero;subst hus;obtain⟨z,its,n,r,hl,e⟩:=I.lstM hH;obtain⟨u,hu,ru⟩:=r.get hy
 have hy':its.toArray[its.toArray.size - 1]? = some u:=by
  show its.toArray[its.length - 1]? = some u
  rw [←Array.getElem?_toList,←hl];exact hu
 refine call_meets F.slot_list_pop ⟨_,e,rfl⟩ F.entry_list_pop (F.args_list_pop_1 _) (MeetsSeq.list_pop_last l its.toArray n u hy' (by rw [MW];omega)) ⟨e,?_⟩;refine⟨y,_,I.lset (its':=its.dropLast) hH e ?_ r.dropLast ?_,ru,q⟩
 ·show its.toArray.eraseIdxIfInBounds (its.toArray.size - 1)=its.dropLast.toArray
  rw [MW,List.eraseIdxIfInBounds_toArray,tU]
 ·rw [List.length_dropLast];omega
def qU:V->List V->Hp->VK->Prop:=λ x vs H Q=>∃ l xs,x=.ref l/\vs=[]/\H l=some (.lst xs)/\Q .non (upd H l (.lst xs.reverse))
theorem sU:MtM X "list.reverse" qU:=by
 intro pins s σ H x vs v us Q I rx rv h;obtain⟨l,xs,rfl,rfl,hH,q⟩:=h;cases rx;have hus:=rv.zero;subst hus;obtain⟨z,its,n,r,hl,e⟩:=I.lstM hH;refine call_meets F.slot_list_reverse ⟨_,e,rfl⟩ F.entry_list_reverse (F.args_list_reverse_1 _) (AutoSeq1.list_reverse_list_0 l its.toArray n (by rw [MW];omega)) ⟨e,?_⟩;refine⟨.non,_,I.lset (its':=its.reverse) hH e (by simp) r.reverse ?_,rfl,q⟩;rw [Oi];omega
def Lf:R2:=λ x y H Q=>∃ l b xs zs,x=.ref l/\y=.ref b/\H l=some (.lst xs)/\H b=some (.lst zs)/\xs.length+zs.length<=sizeLine/\∀ p,H p=none->Q (.ref p) (upd H p (.lst (xs++zs)))
theorem GD:OpR X (binaryOp .Add) Lf:=by
 intro pins s σ H x y v u Q I rx ry h;obtain⟨l,b,xs,zs,rfl,rfl,hH,hB,hz,q⟩:=h;cases rx;cases ry;obtain⟨z,its,n,r,hl,e⟩:=I.lstM hH;obtain⟨z2,its2,n2,r2,hl2,e2⟩:=I.lstM hB;refine PySem.P.add_list e e2 ?_ (by rw [MW,MW];omega);have ea:its.toArray++its2.toArray=(its++its2).toArray:=by simp
 rw [ea];exact⟨.ref _,_,I.lnew (t':=s.toks) (r.append r2) (by rw [ML];omega),rfl,q _ I.fresh⟩
end
section
variable {prog:Program}{w:World}{A:Around}{E:Value->Shared->Prop}{s:Shared}
end
section
variable {X:Cx}
end
end L2
namespace Att
open PySem PySem.W PySem.Calls PyProof.Rows
theorem jy{P:Params}{h:Heap}:∀ (ns:List Int) (vs:List Value),WellAll P h vs (ns.map WData.int)->IntsAre vs ns:=by
 intro ns
 induction ns with
 | nil=>
  intro vs w;rw [map_nil] at w;cases w;exact .nil
 | cons n ns ih=>
  intro vs w;rw [Nf] at w
  cases w with
  | cons a b=>
   cases a;exact .cons _ _ (ih _ b)
theorem wy{l:OpenLaw}{n:Nat}(hn:l.most=some n){P:Params}{h:Heap}{args:List WData}{vals:List Value}
  (hpre:l.row.toRowW.claim.pre args=true) (hwl:WellAll P h vals args) :
  ∃ a vs ns,vals=[Value.ref a]/\args=[WData.list (ns.map WData.int)]/\h.get? a=some { cls:=.type "list",data:=.seq vs.toArray }/\IntsAre vs ns/\ns.length<=n:=by
 have hsh:WShape.hasAll [] args [.list .int]=true:=(pre_splitW hpre).1;have hc:l.pre.holds [] { args:=args }=true:=(pre_splitW hpre).2;obtain⟨d,r,rfl,h1,h2⟩:=hasAllW_cons hsh;obtain rfl:=hasAllW_nil h2;obtain⟨xs,rfl,h3⟩:=hasW_list h1;obtain⟨ns,rfl⟩:=items_int h3
 have hlen:ns.length<=n:=by
  unfold OpenLaw.pre at hc
  have h4:(WTm.not (.lt (.lit (.int (n:Int))) (.len (.arg 0)))).holds [] { args:=[.list (ns.map .int)] }=true:=by
   have h4:=(holds_andW hc).1;rw [hn] at h4;exact h4
  have h5:=condW_of h4 (w_not (w_lt w_lit (w_len_list (w_arg rfl))));rw [MK] at h5;refine O0 λ q=>?_;have q':(n:Int) < ((ns.length:Nat):Int):=by omega
  first
   | (rw [MY q'] at h5;exact absurd h5 (by decide))
   | (simp at h5;omega)
 cases hwl with
 | cons w1 w2=>
  cases w2
  cases w1 with
  | list ho hall=>exact⟨_,_,ns,rfl,rfl,ho,jy ns _ hall,hlen⟩
theorem wz(l:OpenLaw)(args:List WData):l.row.toRowW.claim.post args (.bool true) args=true:=
 postW_of (r:=l.row.toRowW) (X:=(true == true))
  (show WShape.has [] (.bool true) .bool=true by first|rfl|decide|simp [WShape.has,WShape.arms,WShape.armsAll])
  (show (WTm.eq .res (.lit (.bool true))).value [] { args:=args,res:=some (.bool true),after:=args }=some (.bool (true == true)) from w_eq_bool (w_res rfl) w_lit) rfl
theorem attach_call{l:OpenLaw}{n:Nat}{q:Program}{loose:List Str}{XP:(Str->Option Value)->Heap->Prop}{YP:World->Heap->Prop}{d:DefRec}
  (hn:l.most=some n) (hdf:d.params.defaults=[])
  (call:∀ (w:World) (s₀ s₁:Shared) (mg mb:Str->Option Value) (fa:Addr) (o:Obj) (pm cd doc:Value) (a:Addr) (vs:List Value) (ns:List Int),
   Ground q loose [] XP w s₀ mg mb s₁.heap->YP w s₁.heap →
   s₁.heap.get? fa=some o->o.data=.func (docDef d.name d.params d.body d.scope pm cd doc)->s₁.heap.CodeRec cd d.name->mg d.name=some (.ref fa) →
   s₁.heap.get? a=some { cls:=.type "list",data:=.seq vs.toArray }->IntsAre vs ns->ns.length<=n->s₁.gens=#[] →
   codeAny (model l.prog w) callerA (.call (.ref fa) ⟨[.ref a],[]⟩) (λ r s'=>r=.ok (.ret (.bool true))/\OldK s₁.heap s'.heap/\s'.os=s₁.os/\AllBare s'.gens) s₁) :
  WalkO q loose XP YP l.row.toRowW d [] (λ f vs=>PySem.call f vs):=by
 intro w s₀ s₁ mg mb G Y fa o pm cd doc dV kV ho hd hcd hD hmg hg args vals as hpre hlay hrd hwl hlo;obtain rfl:dV=.none:=Dflts.none hD hdf;obtain rfl:kV=.none:=Dflts.noKw hD;obtain⟨a,vs,ns,rfl,rfl,hobj,hints,hlen⟩:=wy hn hpre hwl;refine enter_call (N6 (call w s₀ s₁ mg mb fa o pm cd doc a vs ns G Y ho (fd_plain hd) hcd hmg hobj hints hlen hg) λ r s' hq=>?_);obtain⟨rfl,h2,h3,h4⟩:=hq;exact⟨.inl ⟨.bool true,.bool true,[],rfl,λ _=>rfl,.bool true,wz l _,λ _=>⟨List.Pairwise.nil,λ _ hm=>(nomatch hm)⟩⟩,h2,h3,h4⟩
section
variable {prog:Program}{w:World}{A:Around}{E:Value->Shared->Prop}{s:Shared}{K:Frag}
def LW(h:Heap)(L d:Addr):List (Addr × Obj):=(List.range h.objs.size).filterMap λ a=>if a=L\/a=d then none else (h.get? a).map λ o=>(a,o)
end
end Att
namespace L2
open PySem PySem.Spec PyProof.Rows
theorem mH:∀ {vs:List Value}{ns:List Int},IntsAre vs ns->bq (ns.map V.int) vs
 | _,_,.nil=>.nil
 | _,_,.cons n t h=>.cons ⟨t,rfl⟩ (mH h)
def JQ(H:Hp):Prop:=∀ b,H b=none\/∃ o xs,H b=some (.frz o (.lst xs))
theorem zQ{P:Program}{w:World}{K:W.Frag}{mg mb:Str->Option Value}{CX:CXT}{k:Nat}{fa a:Addr}{fd:FuncData}{x:Str}{sp:Sp}{s₁:Shared}{vs:List Value}{ns:List Int}
  (KX:K.In s₁.heap) (hns:s₁.heap.Ns mainGlobals mg) (hb:s₁.heap.Ns builtinsNs mb) (hbb:∀ x:Str,x ≠ "__name__" → mb x=bootBuiltins x) (hlim:s₁.heap.NoLimit) (hg:s₁.gens=#[])
  (ha:s₁.heap.get? a=some { cls:=.type "list",data:=.seq vs.toArray }) (hi:IntsAre vs ns) (hl:ns.length<=sizeLine) (hr:g7 k callerA)
  (F:∀ base:Heap,K.In base->base.Ns mainGlobals mg->bj P w K mg base CX k fa fd [x] sp) (hbind:∀ (s:Shared) (u:Value),BindsTo s fd ⟨[u],[]⟩ [(x,u)])
  (hsp:∀ H:Hp,JQ H->SqL K H a (ns.map V.int)->sp [.ref a] H (λ v _=>v=.bl true) λ _ _ _=>False)
  (hCX:∀ H e s',CX [] H s₁ (λ _ _ _=>False) e s'->False) :
  codeAny (model P w) callerA (.call (.ref fa) ⟨[.ref a],[]⟩) (λ r s'=>r=.ok (.ret (.bool true))/\OldK s₁.heap s'.heap/\s'.os=s₁.os/\AllBare s'.gens) s₁:=by
 have rv:=mH hi;have lenV:=hi.length
 have core:∀ H:Hp,JQ H->SqL K H a (ns.map V.int)->HOk P w H s₁.heap->(∀ b,H b ≠ none->b=a)->(H a ≠ none->K.lookup a=none) →
   codeAny (model P w) callerA (.call (.ref fa) ⟨[.ref a],[]⟩) (λ r s'=>r=.ok (.ret (.bool true))/\OldK s₁.heap s'.heap/\s'.os=s₁.os/\AllBare s'.gens) s₁:=by
  intro H hO hS hok hA hK;have base_of:∀ {b:Addr} {o:Obj},s₁.heap.get? b=some o->H b=none->(yu s₁.heap H).get? b=some o:=λ e n=>As e n
  have noA:∀ {b:Addr} {o:Obj} {es:Array DictEntry} {ep:Nat},s₁.heap.get? b=some o->o.data=.dict es ep->H b=none:=λ {b o es ep} e d=>by
   cases q:H b with
   | none=>rfl
   | some u=>
    have e':b=a:=hA b (by rw [q];simp);subst e';rw [ha] at e;cases e;have d':Data.seq vs.toArray _=Data.dict es ep:=d;cases d'
  have nsK:∀ {b:Addr} {m:Str->Option Value},s₁.heap.Ns b m->(yu s₁.heap H).Ns b m:=λ {b m} ⟨o,es,ep,e,d,r⟩=>⟨o,es,ep,base_of e (noA e d),d,r⟩
  have hKb:K.In (yu s₁.heap H):=λ b o e=>base_of (KX b o e) (by
   cases q:H b with
   | none=>rfl
   | some u=>
    have e':b=a:=hA b (by rw [q];simp);subst e';rw [hK (by rw [q];simp)] at e;cases e)
  have hM:Mod K mg (yu s₁.heap H):=⟨hKb,nsK hns,⟨mb,nsK hb,hbb⟩,let ⟨mc,h1,h2⟩:=hlim;⟨mc,nsK h1,h2⟩⟩;have e0:A9 P w K mg (yu s₁.heap H) callerA [] s₁ H:=⟨rfl,hM,λ b o e=>C9 e,Pb (xF _ _),trivial,λ b hb=>absurd (show b∈([]:List Addr) from hb) (by simp),hok,.of_eq hg⟩;refine N6 ((F _ hKb (nsK hns)).run callerA [] s₁ H ⟨[.ref a],[]⟩ [.ref a] [.ref a] _ _ hr e0 (hbind s₁ (.ref a)) (.cons rfl .nil) (hsp H hO hS)) λ r s' h=>?_
  cases r with
  | error e=>exact(hCX H e s' h).elim
  | ok fl=>
   cases fl with
   | next=>exact False.elim h
   | brk=>exact False.elim h
   | cont=>exact False.elim h
   | ret u=>
    obtain⟨v,H',os,bare,un,hok',r',q⟩:=h;have q':v=.bl true:=q;subst q';obtain rfl:u=Value.bool true:=r';refine⟨rfl,OldK.of_keep λ b o e=>?_,os,bare⟩
    cases q:H b with
    | none=>exact un.keep b o e q (by intro z;exact absurd (show b∈([]:List Addr) from z) (by simp)) (by simp)
    | some u=>
     rcases hO b with z|⟨ob,xs,z⟩
     ·rw [q] at z;cases z
     ·have z2:=un.frzs b ob _ z;obtain⟨e1,_⟩:=hok b _ z;obtain⟨e2,_⟩:=hok' b _ z2;rw [e] at e1;cases e1;exact e2
 cases hk:K.lookup a with
 | some o=>
  have e:=KX a o hk;rw [ha] at e;cases e;refine core (λ _=>none) (λ _=>.inl rfl) (.inr ⟨_,vs.toArray,_,hk,rfl,rfl,rfl,by rw [MW,lenV];exact hl,by simpa using rv⟩) (λ b u z=>by have z':(none:Option HO)=some u:=z;cases z') (λ b z=>absurd rfl z) λ z=>absurd rfl z
 | none=>
  refine core (λ b=>if b=a then some (.frz { cls:=.type "list",data:=.seq vs.toArray } (.lst (ns.map V.int))) else none) (λ b=>?_) (.inl (.inr ⟨{ cls:=.type "list",data:=.seq vs.toArray },MI rfl⟩)) (λ b u z=>?_) (λ b z=>?_) λ _=>hk
  ·by_cases hb:b=a
   ·exact .inr ⟨_,_,MI hb⟩
   ·exact .inl (MH hb)
  ·by_cases hb:b=a
   ·have z':=(MI hb).symm.trans z;cases z';subst hb;exact⟨ha,by rw [MK];exact hl,vs,_,rv,ha⟩
   ·have z':=(MH hb).symm.trans z;cases z'
  ·by_cases hb:b=a
   ·exact hb
   ·exact absurd (MH hb) z
abbrev KOf{K:PySem.W.Frag}{h:Heap}(_:K.In h):PySem.W.Frag:=K
theorem K0{l:W.OpenLaw}{n k:Nat}{q:Program}{loose:List Str}{XP:(Str->Option Value)->Heap->Prop}{YP:World->Heap->Prop}{d:DefRec}{K:Params->W.Frag}{CX:World->CXT}{sp:World->Sp}{x:Str}
  (hn:l.most=some n) (hn2:n<=sizeLine) (hdf:d.params.defaults=[]) (hr:g7 k callerA)
  (hY:∀ (w:World) (h:Heap),YP w h->(K w.params).In h)
  (F:∀ (w:World) (mg:Str->Option Value) (fa:Addr) (h:Heap),(K w.params).In h->h.Ns mainGlobals mg->mg d.name=some (.ref fa) →
   ∃ fd:FuncData,(∀ (s:Shared) (u:Value),BindsTo s fd ⟨[u],[]⟩ [(x,u)]) /\
    ∀ base:Heap,(K w.params).In base->base.Ns mainGlobals mg->bj l.prog w (K w.params) mg base (CX w) k fa fd [x] (sp w))
  (hsp:∀ (w:World) (H:Hp) (a:Addr) (ns:List Int),ns.length<=n->JQ H->SqL (K w.params) H a (ns.map V.int)->sp w [.ref a] H (λ v _=>v=.bl true) λ _ _ _=>False)
  (hCX:∀ (w:World) (H:Hp) (s:Shared) (e:Value) (s':Shared),CX w [] H s (λ _ _ _=>False) e s'->False) :
  W.WalkO q loose XP YP l.row.toRowW d [] (λ f vs=>PySem.call f vs):=by
 refine Att.attach_call hn hdf λ w s₀ s₁ mg mb fa o pm cd doc a vs ns G Y ho hd hcd hmg hobj hints hlen hg=>?_;have KX:=hY w _ Y;obtain⟨fd,hb,hF⟩:=F w mg fa _ KX G.T.g hmg;exact zQ KX G.T.g G.T.b G.T.builtins G.T.nolimit hg hobj hints (Nm hlen hn2) hr hF hb (λ H hO hS=>hsp w H a ns hlen hO hS) λ H e s'=>hCX w H s₁ e s'
def gE(s:Stmt)(j:Nat):Stmt:=match s with
 | .ClassDef _ _ _ body _ _ _ _ _ _ _=>body.getD j (.Pass ⟨0,0,0,0⟩)
 | _=>.Pass ⟨0,0,0,0⟩
def dC(s:Stmt):Arguments:=match s with
 | .FunctionDef _ a _ _ _ _ _ _ _ _=>a
 | _=>{ posonlyargs:=[],args:=[],vararg:=none,kwonlyargs:=[],kw_defaults:=[],kwarg:=none,defaults:=[] }
def cD(s:Stmt):List Stmt:=match s with
 | .FunctionDef _ _ b _ _ _ _ _ _ _=>b
 | _=>[]
def aa(s:Stmt):Scope:=match s with
 | .FunctionDef _ _ _ _ _ _ sc _ _ _=>sc
 | _=>{ kind:=.function,names:=[],isGenerator:=false,isCoroutine:=false }
abbrev CX0:CXT:=λ _ _ _ _ _ _=>False
abbrev E0:XK:=λ _ _ _=>False
theorem oK{X:Cx}:iM CX0 X E0:=λ _ _ _ _ _ _ _ h=>h.elim
structure Fun(K:W.Frag)(x qual:Str)(st:Stmt)(f:Addr)(fd:FuncData):Prop where
 ex:∃ (oc:Value) (od:Option Addr) (kV doc pm:Value) (an:Option Addr) (cdv ct:Value) (osl:Array (Option Value)),
  fd=W.fnOf x qual (dC st) (cD st) (aa st) .none kV doc pm an cdv ct/\K.lookup f=some ⟨oc,od,.func fd,osl⟩/\W.codeIn K cdv qual=true
 kp:W.keepIn K (.ref f)=true
section
variable {P:Program}{w:World}{K:PySem.W.Frag}{mg:Str->Option Value}{base:Heap}
theorem Fun.ok{x qual:Str}{st:Stmt}{f:Addr}{fd:FuncData}{N ps:List Str}{k:Nat}{sp:Sp}(F:Fun K x qual st f fd)(S:ak N ps (aa st))(len:∀ vs H Q E,sp vs H Q E->vs.length=ps.length)
  (hbody:∀ (cdv:Value) (A:Around) (outer:List Env) (s:Shared) (H:Hp) (vs:List V) (Q:VK) (E:XK),g7 k (A.deeper (envOfC qual (aa st) s.heap.objs.size f cdv))->sp vs H Q E →
   ∃ t,PSs (yp CX0 P w K mg base N qual (aa st) f cdv A outer s H E).nox (cD st) t/\t { nx:=λ _ H'=>Q .non H',rt:=Q } (aE N vs) H):bj P w K mg base CX0 (k+1) f fd ps sp:=by
 obtain⟨oc,od,kV,doc,pm,an,cdv,ct,osl,rfl,lk,hcd⟩:=F.ex;refine FP lk hcd S len λ A outer s H vs Q E hr hsp=>?_;obtain⟨t,h,q⟩:=hbody cdv A outer s H vs Q E hr hsp;exact⟨t,h.nox,q⟩
theorem Fun.binds{x qual:Str}{st:Stmt}{f:Addr}{fd:FuncData}{ps:List Str}(F:Fun K x qual st f fd)
  (h:∀ (kV doc pm:Value) (an:Option Addr) (cdv ct:Value) (us:List Value),us.length=ps.length->bindArgs (W.fnOf x qual (dC st) (cD st) (aa st) .none kV doc pm an cdv ct) ⟨us,[]⟩=pure (ps.zip us)):aC K fd ps []:=by
 obtain⟨oc,od,kV,doc,pm,an,cdv,ct,osl,rfl,lk,hcd⟩:=F.ex;exact .all (h kV doc pm an cdv ct)
theorem IA{x qual:Str}{st:Stmt}{f:Addr}{oc:Value}{od an:Option Addr}{osl:Array (Option Value)}{kV doc pm cdv ct:Value}(l:K.lookup f=some ⟨oc,od,.func (W.fnOf x qual (dC st) (cD st) (aa st) .none kV doc pm an cdv ct),osl⟩)
  (c:W.codeIn K cdv qual=true) (k:W.keepIn K (.ref f)=true):Fun K x qual st f (W.fnOf x qual (dC st) (cD st) (aa st) .none kV doc pm an cdv ct):=⟨⟨oc,od,kV,doc,pm,an,cdv,ct,osl,rfl,l,c⟩,k⟩
end
theorem wx{n:Nat}(h:n<=1000):n < sizeLine:=Nat.lt_of_le_of_lt h (by decide)
section
variable {X:Cx}
theorem pv(i:Nat){x:Str}{pos:Pos}(hN:X.N[i]? = some x:=by rfl)(hv:Vis X.env.scope x:=by first|exact Or.inl rfl|exact Or.inr (Or.inl rfl)|exact Or.inr (Or.inr rfl))(hd:(x == ("__debug__":Str))=false:=by decide)
  (hcd:(x == ("__classdict__":Str))=false:=by decide):PE X (.Name x pos) (II i):=Gs hN hv hd hcd
end
theorem LH{c A B:Prop}[Decidable c](h1:c->A)(h2:¬ c->B):if c then A else B:=by
 by_cases h:c
 ·rw [MI h];exact h1 h
 ·rw [MH h];exact h2 h
def mr(H H':Hp):Prop:=∀ b o,H b=some o->H' b=some o
theorem mr.refl(H:Hp):mr H H:=λ _ _ h=>h
theorem mr.trans{H H1 H2:Hp}(a:mr H H1)(b:mr H1 H2):mr H H2:=λ c o h=>b c o (a c o h)
theorem mr.free{H H':Hp}(e:mr H H'){l:Addr}(h:H' l=Option.none):H l=Option.none:=by
 cases q:H l with
 | none=>rfl
 | some o=>
  rw [e l o q] at h;cases h
theorem mr.seq{K:W.Frag}{H H':Hp}{a:Addr}{xs:List V}(e:mr H H')(h:SqL K H a xs):SqL K H' a xs:=by
 rcases h with (h|⟨o,h⟩)|h
 ·exact .inl (.inl (e _ _ h))
 ·exact .inl (.inr ⟨o,e _ _ h⟩)
 ·exact .inr h
section
variable {κ:Type}[DecidableEq κ]
def ei(kvs:List (κ × V))(k:κ):Option V:=(kvs.find? λ kv=>decide (kv.1=k)).map (·.2)
def dI(kvs:List (κ × V))(k:κ)(v:V):List (κ × V):=
 if (kvs.any λ kv=>decide (kv.1=k))=true then kvs.map (λ kv=>if kv.1=k then (kv.1,v) else kv) else kvs++[(k,v)]
theorem bV{p:κ × V}{r:List (κ × V)}{k:κ}(e:p.1=k):ei (p::r) k=some p.2:=by simp [ei,O4,e]
theorem bW{p:κ × V}{r:List (κ × V)}{k:κ}(e:¬ p.1=k):ei (p::r) k=ei r k:=by simp [ei,O4,e]
theorem fg(k:κ):∀ kvs:List (κ × V),(kvs.any λ kv=>decide (kv.1=k))=(ei kvs k).isSome
 | []=>rfl
 | p::r=>by
  rw [any_cons]
  by_cases e:p.1=k
  ·simp only [bV e,MY e,Bool.true_or,Option.isSome_some]
  ·rw [bW e,M3 e,Bool.false_or];exact fg k r
theorem qN(k j:κ)(y:V):∀ kvs:List (κ × V),ei (kvs.map λ kv=>if kv.1=k then (kv.1,y) else kv) j=(ei kvs j).map λ x=>if j=k then y else x
 | []=>rfl
 | p::r=>by
  have ih:=qN k j y r;rw [Nf]
  by_cases h:p.1=k
  ·rw [MI h]
   by_cases e:p.1=j
   ·rw [bV (p:=(p.1,y)) e,bV e,Oj,MI (e.symm.trans h)]
   ·rw [bW (p:=(p.1,y)) e,bW e,ih]
  ·rw [MH h]
   by_cases e:p.1=j
   ·rw [bV (p:=p) e,bV e,Oj,MH (λ z=>h (e.trans z))]
   ·rw [bW (p:=p) e,bW e,ih]
theorem mI(k j:κ)(y:V):∀ kvs:List (κ × V),ei kvs k=none->ei (kvs++[(k,y)]) j=if j=k then some y else ei kvs j
 | [],_=>by
  by_cases e:k=j
  ·rw [MI e.symm];exact bV (p:=(k,y)) e
  ·rw [MH (λ z=>e z.symm)];exact bW (p:=(k,y)) e
 | p::r,hn=>by
  rw [List.cons_append];have hk:¬ p.1=k:=λ z=>by rw [bV z] at hn;cases hn
  rw [bW hk] at hn;have ih:=mI k j y r hn
  by_cases e:p.1=j
  ·rw [bV e,bV e,MH (λ z=>hk (e.trans z))]
  ·rw [bW e,bW e,ih]
theorem kJ(kvs:List (κ × V))(k j:κ)(y:V):ei (dI kvs k y) j=if j=k then some y else ei kvs j:=by
 unfold dI
 by_cases a:(kvs.any λ kv=>decide (kv.1=k))=true
 ·rw [MI a,qN];rw [fg] at a
  by_cases e:j=k
  ·obtain⟨x,hx⟩:=OU.mp a;rw [MI e,e,hx,Oj,MI rfl]
  ·rw [MH e]
   cases ei kvs j with
   | none=>rfl
   | some x=>rw [Oj,MH e]
 ·rw [MH a];refine mI k j y kvs ?_;rw [fg] at a
  cases q:ei kvs k with
  | none=>rfl
  | some x=>rw [q] at a;exact(a rfl).elim
theorem jk(kvs:List (κ × V))(k:κ)(v:V):(dI kvs k v).length<=kvs.length+1:=by
 unfold dI;split
 ·rw [MK];omega
 ·rw [ML,Nc,OO];omega
theorem ml.isSome_eq{o:Option V}{u:Option Value}(r:ml o u):o.isSome=u.isSome:=by
 cases o with
 | none=>cases u with
  | none=>rfl
  | some _=>exact(show False from r).elim
 | some _=>cases u with
  | none=>exact(show False from r).elim
  | some _=>rfl
theorem ml.getD{o:Option V}{u:Option Value}{d:V}{d':Value}(r:ml o u)(rd:bF d d'):bF (o.getD d) (u.getD d'):=by
 cases o with
 | none=>cases u with
  | none=>exact rd
  | some _=>exact(show False from r).elim
 | some _=>cases u with
  | none=>exact(show False from r).elim
  | some _=>exact r
theorem KV.val{kvs:List (κ × V)}{vs:List (κ × Value)}(r:KV kvs vs)(k:κ):ml (ei kvs k) (valueAt vs k):=by
 unfold KV at r
 induction r with
 | nil=>exact True.intro
 | @cons p q ps qs h t ih=>
  obtain⟨h1,h2⟩:=h
  by_cases e:p.1=k
  ·have e':q.1=k:=h1.symm.trans e;have b:valueAt (q::qs) k=some q.2:=by simp [valueAt,O4,e']
   rw [bV e,b];exact h2
  ·have e':¬ q.1=k:=λ z=>e (h1.trans z);have b:valueAt (q::qs) k=valueAt qs k:=by simp [valueAt,O4,e']
   rw [bW e,b];exact ih
theorem KV.any{kvs:List (κ × V)}{vs:List (κ × Value)}(r:KV kvs vs)(k:κ):(kvs.any λ kv=>decide (kv.1=k))=vs.any λ kv=>decide (kv.1=k):=by
 unfold KV at r
 induction r with
 | nil=>rfl
 | cons h t ih=>rw [any_cons,any_cons,ih,h.1]
theorem KV.repl{kvs:List (κ × V)}{vs:List (κ × Value)}(r:KV kvs vs)(k:κ){y:V}{u:Value}(ry:bF y u) :
  KV (kvs.map λ kv=>if kv.1=k then (kv.1,y) else kv) (vs.map λ kv=>if kv.1=k then (kv.1,u) else kv):=by
 unfold KV at r ⊢
 induction r with
 | nil=>exact .nil
 | @cons p q ps qs h t ih=>
  rw [Nf,Nf];refine .cons ?_ ih;obtain⟨h1,h2⟩:=h
  by_cases e:p.1=k
  ·rw [MI e,MI (h1.symm.trans e)];exact⟨h1,ry⟩
  ·rw [MH e,MH (λ z=>e (h1.trans z))];exact⟨h1,h2⟩
theorem KV.put{kvs:List (κ × V)}{vs:List (κ × Value)}(r:KV kvs vs)(k:κ){y:V}{u:Value}(ry:bF y u):KV (dI kvs k y) (stored vs k u):=by
 unfold dI stored;rw [r.any k]
 by_cases e:(vs.any λ kv=>decide (kv.1=k))=true
 ·rw [MI e,MI e];exact r.repl k ry
 ·rw [MH e,MH e];exact Paired.snoc r ⟨rfl,ry⟩
theorem KV.length{kvs:List (κ × V)}{vs:List (κ × Value)}(r:KV kvs vs):kvs.length=vs.length:=Pf r
end
theorem yA{P:Program}{w:World}{k:Key}{u:Value}(r:bF (kV k) u):(bz P w).is k u=true:=by
 cases k with
 | inl i=>obtain⟨t,e⟩:=(show ∃ t,u=Value.int i t from r);subst e;exact pV P w i t
 | inr x=>obtain⟨t,e⟩:=(show ∃ t,u=Value.str x t from r);subst e;exact pU P w x t
theorem mZ{P:Program}{w:World}:∀ {ks:List Key}{us:List Value},bq (ks.map kV) us->ItemsAre (bz P w) ks us
 | [],_,r=>by rw [map_nil] at r;cases r;exact .nil
 | k::ks,_,r=>by
  rw [Nf] at r
  cases r with
  | cons h t=>exact .cons (yA h) (mZ t)
abbrev KT(H:Hp):List (List Key × V)->List (List Key × Addr × Value)->Prop:=Paired λ p q=>p.1=q.1/\H q.2.1=some (.tup (p.1.map kV))/\bF p.2 q.2.2
theorem KT.val{H:Hp}{kvs:List (List Key × V)}{xs:List (List Key × Addr × Value)}(r:KT H kvs xs)(k:List Key):ml (ei kvs k) ((atKey xs k).map (·.2)):=by
 induction r with
 | nil=>exact True.intro
 | @cons p q ps qs h t ih=>
  obtain⟨h1,_,h2⟩:=h
  by_cases e:p.1=k
  ·have e':q.1=k:=h1.symm.trans e;have b:atKey (q::qs) k=some q.2:=by simp [atKey,O4,e']
   rw [bV e,b];exact h2
  ·have e':¬ q.1=k:=λ z=>e (h1.trans z);have b:atKey (q::qs) k=atKey qs k:=by simp [atKey,O4,e']
   rw [bW e,b];exact ih
theorem KT.repl{H:Hp}{kvs:List (List Key × V)}{xs:List (List Key × Addr × Value)}(r:KT H kvs xs)(k:List Key){y:V}{u:Value}(ry:bF y u) :
  KT H (kvs.map λ kv=>if kv.1=k then (kv.1,y) else kv) (xs.map (putAt k u)):=by
 induction r with
 | nil=>exact .nil
 | @cons p q ps qs h t ih=>
  rw [map_cons,map_cons];refine .cons ?_ ih;obtain⟨h1,h2,h3⟩:=h;unfold putAt
  by_cases e:p.1=k
  ·rw [MI e,MI (h1.symm.trans e)];exact⟨h1,h2,ry⟩
  ·rw [MH e,MH (λ z=>e (h1.trans z))];exact⟨h1,h2,h3⟩
theorem KT.put{H:Hp}{kvs:List (List Key × V)}{xs:List (List Key × Addr × Value)}(r:KT H kvs xs)(k:List Key){b:Addr}{y:V}{u:Value}(hb:H b=some (.tup (k.map kV)))(ry:bF y u) :
  KT H (dI kvs k y) (storedH xs k b u):=by
 have e:(kvs.any λ kv=>decide (kv.1=k))=(atKey xs k).isSome:=by
  rw [fg,(r.val k).isSome_eq,Option.isSome_map]
 unfold dI storedH;rw [e]
 by_cases q:(atKey xs k).isSome=true
 ·rw [MI q,MI q];exact r.repl k ry
 ·rw [MH q,MH q];exact Paired.snoc r ⟨rfl,hb,ry⟩
theorem KT.keeps{H H':Hp}{kvs:List (List Key × V)}{xs:List (List Key × Addr × Value)}(r:KT H kvs xs)(ht:∀ b ys,H b=some (.tup ys)->H' b=some (.tup ys)):KT H' kvs xs:=
 Paired.mapP r λ _ _ z=>⟨z.1,ht _ _ z.2.1,z.2.2⟩
section
variable {P:Program}{w:World}{H:Hp}{h:Heap}{a:Addr}
theorem Fs{u:HO}(ok:HOk P w H h)(e:Rd H a u):bK P w H h a u:=e.ok ok
theorem uF{kvs:List (Key × V)}(ok:HOk P w H h)(e:Rd H a (.dK kvs)):kvs.length<=sizeLine/\(a == sysModules)=false/\∃ vs,KV kvs vs/\h.DictOf (bz P w) a vs:=
 show bK P w H h a (.dK kvs) from Fs ok e
theorem Ci{kvs:List (Key × V)}(ok:HOk P w H h)(e:H a=some (.dK kvs)):kvs.length<=sizeLine/\(a == sysModules)=false/\∃ vs,KV kvs vs/\h.DictOf (bz P w) a vs:=uF ok (.inl e)
theorem qE{ks:List Key}(ok:HOk P w H h)(e:H a=some (.tup (ks.map kV))):(tupleKind (bz P w)).is h ks a:=by
 obtain⟨_,its,r,o,h1,h2,n,h3⟩:=(show bK P w H h a (.tup (ks.map kV)) from ok a _ e);exact⟨o,its.toArray,n,h1,h2,h3,by simpa using mZ r⟩
theorem uE{kvs:List (List Key × V)}(ok:HOk P w H h)(e:Rd H a (.dT kvs)):kvs.length<=sizeLine/\(a == sysModules)=false /\
  ∃ xs,KT H kvs xs/\h.DictOfH (tupleKind (bz P w)) a xs:=by
 obtain⟨z,y,xs,r,o,es,ep,h1,h2,h3,h4,h5⟩:=(show bK P w H h a (.dT kvs) from Fs ok e);refine⟨z,y,xs,r,o,es,ep,h1,h2,h3,h4,λ x hx=>?_,h5⟩
 have all:∀ {l:List (List Key × V)} {m:List (List Key × Addr × Value)},KT H l m->∀ x∈m,(tupleKind (bz P w)).is h x.1 x.2.1:=by
  intro l m q
  induction q with
  | nil=>intro x hx;exact nomatch hx
  | @cons p q ps qs hq t ih=>
   intro x hx
   rcases MU.mp hx with e|hx
   ·subst e;exact qE ok (by rw [←hq.1];exact hq.2.1)
   ·exact ih x hx
 exact all r x hx
theorem KS{kvs:List (List Key × V)}(ok:HOk P w H h)(e:H a=some (.dT kvs)):kvs.length<=sizeLine/\(a == sysModules)=false /\
  ∃ xs,KT H kvs xs/\h.DictOfH (tupleKind (bz P w)) a xs:=uE ok (.inl e)
end
def uw(H:Hp)(a:Addr)(y:V)(r:Option V):Prop:=
 (∃ kvs k,Rd H a (.dK kvs)/\y=kV k/\r=ei kvs k)\/∃ kvs k b,Rd H a (.dT kvs)/\y=.ref b/\H b=some (.tup (k.map kV))/\r=ei kvs k
def EZ(H:Hp)(a:Addr)(y v:V)(H':Hp):Prop:=
 (∃ kvs k,H a=some (.dK kvs)/\y=kV k/\kvs.length < sizeLine/\H'=upd H a (.dK (dI kvs k v))) \/
 ∃ kvs k b,H a=some (.dT kvs)/\y=.ref b/\H b=some (.tup (k.map kV))/\kvs.length < sizeLine/\H'=upd H a (.dT (dI kvs k v))
theorem uw.k{H:Hp}{a:Addr}{kvs:List (Key × V)}{k:Key}(e:H a=some (.dK kvs)):uw H a (kV k) (ei kvs k):=.inl ⟨kvs,k,.inl e,rfl,rfl⟩
theorem EZ.k{H:Hp}{a:Addr}{kvs:List (Key × V)}{k:Key}{v:V}(e:H a=some (.dK kvs))(hl:kvs.length < sizeLine):EZ H a (kV k) v (upd H a (.dK (dI kvs k v))):=.inl ⟨kvs,k,e,rfl,hl,rfl⟩
section
variable {X:Cx}{pins:List (Addr × Obj)}{σ:St}{H:Hp}{s:Shared}{a:Addr}{y v:V}{u r:Value}{o:Option V}{A:Around}{E:Value->Shared->Prop}
theorem Inv.big(I:Inv X pins σ H s):sysModules < s.heap.objs.size:=by
 have h:mainGlobals < s.heap.objs.size:=(I.mod.glob.keeps I.bk).lt;exact OI (by decide) h
theorem xQ{Q:Value->Shared->Prop}(hu:A.units+1 < cLine)(I:Inv X pins σ H s)(g:uw H a y (some v))(ry:bF y u)(h:∀ w' s',Inv X pins σ H s'->bF v w'->Q w' s') :
  wpAny (model X.prog X.w) A (getItem (.ref a) u) Q E s:=by
 rcases g with ⟨kvs,k,e,ey,l⟩|⟨kvs,k,b,e,ey,eb,l⟩
 ·subst ey;obtain⟨z,hd,vs,rel,dd⟩:=uF I.hok e;obtain⟨w',hw,rw'⟩:=ml.some_of (v:=v) (o:=valueAt vs k) (by rw [l];exact rel.val k);exact wpAny_getItem_of (yA ry) dd.mapOf hw (h w' _ (I.tok _) rw')
 ·subst ey;cases (show u=Value.ref b from ry);obtain⟨z,hd,xs,rel,dd⟩:=uE I.hok e;obtain⟨w',hw,rw'⟩:=ml.some_of (v:=v) (o:=(atKey xs k).map (·.2)) (by rw [l];exact rel.val k);obtain⟨p,hp,hp2⟩:=M4.mp hw;refine wpAny_getItem_heap (PL hu) (qE I.hok eb) dd hp ?_;rw [hp2];exact h w' _ (I.tok _) rw'
theorem wa{h':Heap}{t':Nat}{ob:HO}(I:Inv X pins σ H s)(mu:Mut (H a))(hs:Heap.SameBut a s.heap h')(he:∃ q,h'.get? a=some q)(new:bK X.prog X.w (upd H a ob) h' a ob) :
  Inv X pins σ (upd H a ob) { s with heap:=h',toks:=t' }:=
 I.write (x:=a) (e:=a) mu (.inl rfl) (λ b q hb z=>(hs.2 b hb).trans z) he new
theorem IC{P:Program}{w:World}{H':Hp}{h':Heap}{kvs:List (Key × V)}{vs:List (Key × Value)}(z:kvs.length<=sizeLine)(hd:(a == sysModules)=false)(rel:KV kvs vs)(dd:h'.DictOf (bz P w) a vs) :
  bK P w H' h' a (.dK kvs):=⟨z,hd,vs,rel,dd⟩
theorem xP{H':Hp}{Q:Unit->Shared->Prop}(hu:A.units+1 < cLine)(I:Inv X pins σ H s)(g:EZ H a y v H')(ry:bF y u)(rv:bF v r)(h:∀ s',Inv X pins σ H' s'->Q () s') :
  wpAny (model X.prog X.w) A (setItem (.ref a) u r) Q E s:=by
 rcases g with ⟨kvs,k,e,ey,l,eH⟩|⟨kvs,k,b,e,ey,eb,l,eH⟩
 ·subst ey eH;obtain⟨z,hd,vs,rel,dd⟩:=Ci I.hok e;have hz:vs.length<=sizeLine:=by rw [←rel.length];exact z
  have hl:(dI kvs k v).length<=sizeLine:=by have:=jk kvs k v;omega
  refine wpAny_setItem_pairs (hsz:=hz) (yA ry) dd λ h' dd' hs=>h _ ?_;have he:∃ q,h'.get? a=some q:=let ⟨q,_,_,hq,_⟩:=dd';⟨q,hq⟩;exact wa I (by rw [e];exact True.intro) hs he (IC hl hd (rel.put k rv) dd')
 ·subst ey eH;cases (show u=Value.ref b from ry);obtain⟨z,hd,xs,rel,dd⟩:=KS I.hok e;have hz:xs.length<=sizeLine:=by rw [←Pf rel];exact z
  have hl:(dI kvs k v).length<=sizeLine:=by have:=jk kvs k v;omega
  refine wpAny_setItem_heap (hsz:=hz) (PL hu) (qE I.hok eb) dd λ h' dd' hs=>h _ ?_;obtain⟨q,es,ep,hq,h2,h3,h4,_,h5⟩:=dd';refine wa I (by rw [e];exact True.intro) hs ⟨q,hq⟩ ⟨hl,hd,_,(rel.put k eb rv).keeps λ c ys ec=>?_,q,es,ep,hq,h2,h3,h4,h5⟩;rw [ai (J8 ec e (λ z=>nomatch z))];exact ec
end
section
variable {X:Cx}{pins:List (Addr × Obj)}{σ:St}{H:Hp}{s:Shared}{a:Addr}{kvs:List (Key × V)}{k:Key}{u:Value}{A:Around}{E:Value->Shared->Prop}
end
def LS(i:Expr):Prop:=∀ ov iv,subscripted i false ov iv=operate [ov,iv] (getItem ov iv)
theorem Cu{prog:Program}{w:World}{A:Around}{E:Value->Shared->Prop}{s:Shared}{env:Env}{value slice:Expr}{pos:Pos}{T id:String}{Q:Value->Shared->Prop}
  (hl:typeLookup (.type T) "__getitem__"=pure (some (.builtin id))) (hs:LS slice)
  (h:wpAny (model prog w) A (eval value env) (λ o s₁=>wpAny (model prog w) A (eval slice env) (λ i s₂=>s₂.TypeIs o T/\wpAny (model prog w) A (getItem o i) Q E s₂) E s₁) E s) :
  wpAny (model prog w) A (eval (.Subscript value slice pos) env) Q E s:=by
 refine Subscript_ (wpAny_mono h (λ o s₁ h₁=>wpAny_mono h₁ (λ i s₂ h₂=>?_) λ _ _ x=>x) λ _ _ x=>x);obtain⟨hT,h₂⟩:=h₂;unfold subscriptTail;refine wpAny_bind ?_;rw [getitemInPython_of_ne hT.not_modules];refine wpAny_bind (wpAny_specialOf hT hl ?_)
 have fin:wpAny (model prog w) A (subscripted slice false o i) (λ r s₃=>wpAny (model prog w) A (letTemporaryGo value o r >>= λ _=>pure r) Q E s₃) E s₂:=by
  rw [hs o i];exact wpAny_operating (Oq h₂ (λ r s₃ h₃=>My (wpAny_letTemporaryGo (MM h₃))) λ _ _ x=>x)
 first
  | exact MM (My fin)
  | exact My (MM (My fin))
  | exact My fin
theorem p7{X:Cx}{pins:List (Addr × Obj)}{σ:St}{H:Hp}{s:Shared}{a:Addr}{y:V}{o:Option V}(I:Inv X pins σ H s)(g:uw H a y o):s.TypeIs (.ref a) "dict":=by
 rcases g with ⟨kvs,k,e,_,_⟩|⟨kvs,k,b,e,_,_,_⟩
 ·obtain⟨_,_,vs,_,dd⟩:=uF I.hok e;exact dd.typeIs
 ·obtain⟨_,_,xs,_,dd⟩:=uE I.hok e;exact dd.typeIs
def Fm(td ty:TE):TE:=λ σ H Q=>td σ H λ x H1=>ty σ H1 λ y H2=>∃ a v,x=.ref a/\uw H2 a y (some v)/\Q v H2
def Fq(td ty tv:TE):TS:=λ D σ H=>tv σ H λ v H1=>td σ H1 λ x H2=>ty σ H2 λ y H3=>∃ a H4,x=.ref a/\EZ H3 a y v H4/\D.nx σ H4
section
variable {X:Cx}{o i e value:Expr}{pos pos' tpos:Pos}{td ty tv:TE}
theorem iQ(hu:X.A.units+1 < cLine)(ho:PE X o td)(hi:PE X i ty)(hs:LS i):PE X (.Subscript o i pos) (Fm td ty):=by
 intro pins s σ H Q I h;refine Cu PySem.F.slot_dict_getitem.lookup hs (thn (ho pins s σ H _ I h) λ u s1 ⟨x,H1,I1,rx,q1⟩=>thn (hi pins s1 σ H1 _ I1 q1) λ iv s2 ⟨y,H2,I2,ry,a,v,ex,g,q2⟩=>?_);subst ex;obtain rfl:u=Value.ref a:=rx;exact⟨p7 I2 g,xQ hu I2 g ry λ w' s3 I3 rw'=>⟨v,H2,I3,rw',q2⟩⟩
theorem CH(hu:X.A.units+1 < cLine)(ho:PE X o td)(hi:PE X i ty)(hv:PE X value tv)(hs:swapsWith value (some (.Subscript o i pos')) pos.line X.env=pure false) :
  PS X (.Assign [.Subscript o i pos'] value pos) (Fq td ty tv):=by
 intro pins s σ H D I h;refine wpAny_Assign_Subscript (thn (hv pins s σ H _ I h) λ r s1 ⟨v,H1,I1,rv,q1⟩=>thn (ho pins s1 σ H1 _ I1 q1) λ u s2 ⟨x,H2,I2,rx,q2⟩=>thn (hi pins s2 σ H2 _ I2 q2) λ iv s3 ⟨y,H3,I3,ry,a,H4,ex,g,q3⟩=>?_) hs;subst ex;obtain rfl:u=Value.ref a:=rx;exact xP hu I3 g ry rv λ s4 I4=>⟨σ,H4,I4,q3⟩
end
theorem AM{P:Program}{w:World}{H:Hp}(h:Heap)(hb:sysModules < h.objs.size):bK P w H (h.push { cls:=.type "dict",data:=.dict #[] }) h.objs.size (.dK []):=
 ⟨Np _,Oc.mpr (Nd (MS hb)),[],.nil,Heap.DictOf.new h⟩
def FZ:TE:=λ _ H Q=>∀ p,H p=none->Q (.ref p) (upd H p (.dK []))
section
variable {X:Cx}{pos:Pos}
theorem zh:PE X (.Dict [] [] pos) FZ:=λ pins s σ H Q I h=>
 wpAny_Dict_empty ⟨.ref s.heap.objs.size,_,I.laid (a:=s.heap.objs.size) (o:=.dK []) (t':=s.toks) (λ _ _ q=>Mz _ q) (MG _) (AM s.heap I.big),rfl,h _ (I.hok.fresh (MG _))⟩
end
structure M1(X:Cx)(o:Expr)(m:Str)(apos:Pos)(e:Expr)(cpos:Pos):Prop where
 base:attributeBase o m X.env (eval o X.env)=eval o X.env
 few:((backTo cpos (starEach [e] X.env)).all (λ x=>!x.1) && (backToKw cpos (keywordEach [] X.env)).all (λ x=>x.1.isSome)
  && decide (([e]:List Expr).length+([]:List Keyword).length+(if ([]:List Keyword).isEmpty then 0 else 1) < 30))=true
 line:(apos.endLine == cpos.line)=true
 trees:backTo cpos (starEach [e] X.env)=[(false,eval e X.env)]
structure M2(X:Cx)(o:Expr)(m:Str)(apos:Pos)(e f:Expr)(cpos:Pos):Prop where
 base:attributeBase o m X.env (eval o X.env)=eval o X.env
 few:((backTo cpos (starEach [e,f] X.env)).all (λ x=>!x.1) && (backToKw cpos (keywordEach [] X.env)).all (λ x=>x.1.isSome)
  && decide (([e,f]:List Expr).length+([]:List Keyword).length+(if ([]:List Keyword).isEmpty then 0 else 1) < 30))=true
 line:(apos.endLine == cpos.line)=true
 trees:backTo cpos (starEach [e,f] X.env)=[(false,eval e X.env),(false,eval f X.env)]
def IsD(H:Hp)(a:Addr):Prop:=(∃ kvs,Rd H a (.dK kvs))\/∃ kvs,Rd H a (.dT kvs)
theorem Iz{X:Cx}{pins:List (Addr × Obj)}{σ:St}{H:Hp}{s:Shared}{a:Addr}(I:Inv X pins σ H s)(d:IsD H a) :
  s.TypeIs (.ref a) "dict" /\ (∀ b,Value.ref a=.ref b->∃ ob,s.heap.get? b=some ob/\ob.dict=none)/\(a == sysModules)=false:=by
 rcases d with ⟨kvs,e⟩|⟨kvs,e⟩
 ·obtain⟨_,hd,vs,_,dd⟩:=uF I.hok e;refine⟨dd.typeIs,λ b q=>?_,hd⟩;cases q;obtain⟨ob,_,_,h1,h2,_⟩:=dd;exact⟨ob,h1,h2.2.1⟩
 ·obtain⟨_,hd,xs,_,dd⟩:=uE I.hok e;refine⟨dd.typeIs,λ b q=>?_,hd⟩;cases q;obtain⟨ob,_,_,h1,h2,_⟩:=dd;exact⟨ob,h1,h2.2.1⟩
section
variable {X:Cx}{pins:List (Addr × Obj)}{σ:St}{H:Hp}{s:Shared}{a:Addr}{y d:V}{u r:Value}{o:Option V}{A:Around}{E:Value->Shared->Prop}
theorem ID{Q:Value->Shared->Prop}(hu:A.units+1 < cLine)(I:Inv X pins σ H s)(g:uw H a y o)(ry:bF y u)(rd:bF d r)(h:∀ w' s',Inv X pins σ H s'->bF (o.getD d) w'->Q w' s') :
  wpAny (model X.prog X.w) A (call (.builtin "dict.get") [.ref a,u,r]) Q E s:=by
 rcases g with ⟨kvs,k,e,ey,l⟩|⟨kvs,k,b,e,ey,eb,l⟩
 ·subst ey;obtain⟨z,hd,vs,rel,dd⟩:=uF I.hok e;refine call_meetsIn O8 dd.typeIs PySem.F.entry_dict_get (PySem.F.args_dict_get_3 _ _ _) (meets_dict_get_default (bz X.prog X.w) a (yA ry) hd r) ⟨_,dd.mapOf,h _ _ (I.tok _) ?_⟩;rw [l];exact(rel.val k).getD rd
 ·subst ey;cases (show u=Value.ref b from ry);obtain⟨z,hd,xs,rel,dd⟩:=uE I.hok e;refine call_meetsIn O8 dd.typeIs PySem.F.entry_dict_get (PySem.F.args_dict_get_3 _ _ _) (meetsH_dict_get_default (tupleKind (bz X.prog X.w)) a b hd r) ⟨PL hu,k,xs,qE I.hok eb,dd,h _ _ (I.tok _) ?_⟩;rw [l];exact(rel.val k).getD rd
end
def Bf(td ty tx:TE):TE:=λ σ H Q=>td σ H λ x H1=>∃ a,x=.ref a/\IsD H1 a/\ty σ H1 λ y H2=>tx σ H2 λ z H3=>∃ o,uw H3 a y o/\Q (o.getD z) H3
section
variable {X:Cx}{o e f:Expr}{apos cpos:Pos}{td ty tx:TE}
theorem zj(hu:X.A.units+1 < cLine)(ho:PE X o td)(he:PE X e ty)(hf:PE X f tx)(m:M2 X o "get" apos e f cpos):PE X (.Call (.Attribute o "get" apos) [e,f] [] cpos) (Bf td ty tx):=by
 intro pins s σ H Q I h;refine wpAny_Call_method m.base m.few m.line PySem.F.plainAttrs_dict O8 PySem.F.type_dict_get (thn (ho pins s σ H _ I h) λ u s1 ⟨x,H1,I1,rx,a,ex,d,q1⟩=>?_);subst ex;obtain rfl:u=Value.ref a:=rx;obtain⟨t1,t2,_⟩:=Iz I1 d;refine⟨t1,t2,?_⟩;rw [m.trees]
 refine Pl rfl (Pr (PQ (thn (he pins s1 σ H1 _ I1 q1) λ iv s2 ⟨y,H2,I2,ry,q2⟩=>
  PQ (thn (hf pins s2 σ H2 _ I2 q2) λ fv s3 ⟨z,H3,I3,rz,ov,g,q3⟩=>Calls.spliced_nil ?_))))
 exact ID hu I3 g ry rz λ w' s4 I4 rw'=>⟨_,H3,I4,rw',q3⟩
end
section
variable {X:Cx}{pins:List (Addr × Obj)}{σ:St}{H:Hp}{s:Shared}{a:Addr}{kvs:List (Key × V)}{A:Around}{E:Value->Shared->Prop}
end
section
variable {X:Cx}{pins:List (Addr × Obj)}{σ:St}{H:Hp}{s:Shared}{a:Addr}{y:V}{u:Value}{A:Around}{E:Value->Shared->Prop}
end
section
variable {κ:Type}[DecidableEq κ]
theorem Jb{kvs:List (κ × V)}{k:κ}(h:ei kvs k=none):¬ k∈kvs.map (·.1):=by
 intro m;obtain⟨p,hp,e⟩:=M9.mp m;have q:(kvs.any λ kv=>decide (kv.1=k))=true:=List.any_eq_true.mpr ⟨p,hp,MY e⟩;rw [fg,h] at q;exact absurd q (by simp)
end
section
variable {X:Cx}
def sJ(_ j:Int):Prop:=j ≠ 0/\j.natAbs < 2 ^ 256
theorem Io{j:Int}(h:j ≠ 0)(hj:j.natAbs < 2 ^ 256):j.natAbs.log2 < 9000:=by
 have h0:j.natAbs ≠ 0:=by omega
 have h1:=(Nat.log2_lt h0).mpr hj;omega
theorem zo:OpR X (binaryOp .FloorDiv) (rI sJ λ i j=>.int (i.fdiv j)):=opI λ _ _ _ _ _ _ _ hc q=>floordiv_int hc.1 q (.inl (PyProof.noPylong_of_log2 (Io hc.1 hc.2)))
theorem AR:bD X (.builtin "isinstance") (λ xs H Q=>∃ x n ty b,xs=[x,.ty n]/\qp X.K H x ty/\W.kitOne X.K ty (.type n)=some b/\Q (.bl b) H):=by
 intro pins s σ H xs us Q I r h;obtain⟨x,n,ty,b,rfl,hty,hk,q⟩:=h;obtain⟨u,w',rfl,rx,rc⟩:=yx r;cases (show w'=Value.type n from rc);exact xD I rx hty hk (λ tk=>⟨.bl b,H,I.tok _,rfl,q⟩)
theorem xA(K:W.Frag)(A B:String)(r:Bool)
  (h:(if (Value.type A == Value.type B)=true then some true else if W.kitMeta B=true then (fastBuiltinMro A).map (·.contains (.type B)) else none)=some r):W.kitOne K (.type A) (.type B)=some r:=h
mutual
inductive kh (K:PySem.W.Frag) (H:Hp):V->PyData->Prop
 | non:kh K H .non .none
 | bl (b:Bool):kh K H (.bl b) (.bool b)
 | int (i:Int):kh K H (.int i) (.int i)
 | str (x:Str):kh K H (.str x) (.str x)
 | lst {a:Addr} {xs:List V} {ds:List PyData} (h:SqL K H a xs) (r:iG K H xs ds):kh K H (.ref a) (.list ds)
 | tup {a:Addr} {xs:List V} {ds:List PyData} (h:SqT K H a xs) (r:iG K H xs ds):kh K H (.ref a) (.tuple ds)
inductive iG (K:PySem.W.Frag) (H:Hp):List V->List PyData->Prop
 | nil:iG K H [] []
 | cons {x:V} {d:PyData} {xs:List V} {ds:List PyData} (h:kh K H x d) (t:iG K H xs ds):iG K H (x::xs) (d::ds)
end
mutual
theorem kh.reads{pins:List (Addr × Obj)}{σ:St}{H:Hp}{s:Shared}(I:Inv X pins σ H s):∀ {x:V}{d:PyData}{u:Value},kh X.K H x d->bF x u->∃ as,Reads s.heap u d as
 | _,_,_,.non,r=>by cases (show _=Value.none from r);exact⟨_,.none⟩
 | _,_,_,.bl b,r=>by cases (show _=Value.bool b from r);exact⟨_,.bool b⟩
 | _,_,_,.int i,r=>by obtain⟨t,rfl⟩:=r;exact⟨_,.int i t⟩
 | _,_,_,.str x,r=>by obtain⟨t,rfl⟩:=r;exact⟨_,.str x t⟩
 | _,_,_,@kh.lst _ _ a xs ds h q,r=>by
  cases (show _=Value.ref a from r);obtain⟨its,hv,hp,_⟩:=I.list h;obtain⟨o,n,e,c,_,d⟩:=hp;obtain⟨as,z⟩:=iG.reads I q hv;exact⟨_,.list e c d (by simpa using z)⟩
 | _,_,_,@kh.tup _ _ a xs ds h q,r=>by
  cases (show _=Value.ref a from r);obtain⟨its,hv,hp,_⟩:=I.tuple h;obtain⟨o,e,c,n,d⟩:=hp;obtain⟨as,z⟩:=iG.reads I q hv;exact⟨_,.tuple e c d (by simpa using z)⟩
theorem iG.reads{pins:List (Addr × Obj)}{σ:St}{H:Hp}{s:Shared}(I:Inv X pins σ H s):∀ {xs:List V}{ds:List PyData}{us:List Value},iG X.K H xs ds->bq xs us->∃ as,ReadsAll s.heap us ds as
 | _,_,_,.nil,.nil=>⟨_,.nil⟩
 | _,_,_,.cons h t,.cons r q=>by
  obtain⟨as,z⟩:=kh.reads I h r;obtain⟨bs,y⟩:=iG.reads I t q;exact⟨_,.cons z y⟩
end
def L9(K:W.Frag):R2:=λ x y H Q=>∃ d e,kh K H x d/\kh K H y e/\SeqAt.shaped d=true/\SeqAt.shaped e=true/\Q (.bl (PyData.eqv d e)) H
def L6(K:W.Frag):R2:=λ x y H Q=>∃ d e,kh K H x d/\kh K H y e/\SeqAt.shaped d=true/\SeqAt.shaped e=true/\Q (.bl (!PyData.eqv d e)) H
theorem GC(hu:X.A.units+64 < cLine):OpR X (compareOp .Eq) (L9 X.K):=by
 intro pins s σ H x y v u Q I rx ry h;obtain⟨d,e,hd,he,sd,se,q⟩:=h;obtain⟨as,z⟩:=hd.reads I rx;obtain⟨bs,z'⟩:=he.reads I ry;exact SeqAt.compareEq_shaped z z' sd se hu ⟨.bl _,H,I,rfl,q⟩
theorem Gz(hu:X.A.units+64 < cLine):OpR X (compareOp .NotEq) (L6 X.K):=by
 intro pins s σ H x y v u Q I rx ry h;obtain⟨d,e,hd,he,sd,se,q⟩:=h;obtain⟨as,z⟩:=hd.reads I rx;obtain⟨bs,z'⟩:=he.reads I ry;exact SeqAt.compareNe_shaped z z' sd se hu ⟨.bl _,H,I,rfl,q⟩
end
theorem yX{H:Hp}{p:Addr}{o:HO}(h:H p=none):mr H (upd H p o):=λ b u e=>by
 rw [ai (bR e h)];exact e
theorem BE{α:Type}(xs:List α)(i:Int)(h0:0<=i)(h1:i < xs.length):∃ v,atI xs i=some v/\v∈xs:=by
 have hl:i.toNat < xs.length:=by omega
 refine⟨xs[i.toNat],?_,Nx hl⟩;have e:((i.toNat:Nat):Int)=i:=by omega
 have:=fQ (xs:=xs) (j:=i.toNat) (v:=xs[i.toNat]) (Mx hl);rw [e] at this;exact this
theorem rQ(ns:List Int)(i:Int)(h0:0<=i)(h1:i < ns.length):∃ z,atI (ns.map V.int) i=some (.int z)/\z∈ns:=by
 obtain⟨v,e,m⟩:=BE (ns.map V.int) i h0 (by simpa using h1);obtain⟨z,hz,rfl⟩:=M9.mp m;exact⟨z,e,hz⟩
def mj(cells:List (Str × Addr)):List (Str × NameKind)->List (Str × Addr)->List (Str × Addr)
 | [],acc=>acc
 | (n,k)::r,acc=>if (k == .free)=true then mj cells r ((n,(cells.lookup n).getD 0)::acc) else mj cells r acc
theorem gc{env:Env}:∀ (names:List (Str × NameKind)) (acc:List (Str × Addr)),(∀ y∈names,y.2=.free->∃ c,env.cells.lookup y.1=some c) →
  (forIn names acc (λ (x:Str × NameKind) (cs:List (Str × Addr))=>match x with
   | (name,kind)=>if (kind == .free)=true then (do let a ←cellOf env name;pure (ForInStep.yield ((name,a)::cs))) else (do pure PUnit.unit;pure (ForInStep.yield cs))):Sem (List (Str × Addr)))=pure (mj env.cells names acc)
 | [],acc,_=>rfl
 | (n,k)::r,acc,h=>by
  rw [PN];have hr:∀ y∈r,y.2=.free->∃ c,env.cells.lookup y.1=some c:=λ y hy=>h y (MD _ hy)
  by_cases hk:(k == .free)=true
  ·obtain⟨c,hc⟩:=h (n,k) mem_cons_self (by simpa using hk);have hc':env.cells.lookup n=some c:=hc;simp only [hk,if_true,mj,hc',Option.getD_some];have e:cellOf env n=pure c:=by unfold cellOf;rw [hc']
   rw [e];exact gc r _ hr
  ·simp only [hk,if_false,mj];exact gc r acc hr
theorem gz{scope:Scope}{env:Env}(h:∀ y∈scope.names,y.2=.free->∃ c,env.cells.lookup y.1=some c):closureFor scope env=pure (mj env.cells scope.names []):=by
 unfold closureFor;have:=gc (env:=env) scope.names [] h
 first
  | exact(NF (λ m=>m >>= λ cs=>pure cs) this).trans (pure_bind _ _)
  | (simp only [] at this ⊢;rw [this];rfl)
theorem lH{cells:List (Str × Addr)}{x:Str}{c:Addr}:∀ {names:List (Str × NameKind)}{acc:List (Str × Addr)},(∀ y∈names,y.2=.free->∃ c,cells.lookup y.1=some c)->(mj cells names acc).lookup x=some c->acc.lookup x=some c\/cells.lookup x=some c
 | [],acc,_,h=>.inl h
 | (n,k)::r,acc,hf,h=>by
  have hr:∀ y∈r,y.2=.free->∃ c,cells.lookup y.1=some c:=λ y hy=>hf y (mem_cons_of_mem _ hy);unfold mj at h
  by_cases hk:(k == .free)=true
  ·rw [MI hk] at h
   rcases lH hr h with q|q
   ·rw [N4] at q
    cases hx:x == n with
    | true=>
     rw [hx] at q;obtain⟨d,hd⟩:=hf (n,k) MF (by simpa using hk);have e:x=n:=by simpa using hx
     subst e;have hd':cells.lookup x=some d:=hd;rw [hd'] at q ⊢;exact .inr (by simpa using q)
    | false=>rw [hx] at q;exact .inl q
   ·exact .inr q
  ·rw [MH hk] at h;exact lH hr h
theorem lI{cells:List (Str × Addr)}{x:Str}:∀ {names:List (Str × NameKind)}{acc:List (Str × Addr)},(∀ y∈names,y.2=.free->∃ c,cells.lookup y.1=some c)->(∃ c,acc.lookup x=some c)->∃ c,(mj cells names acc).lookup x=some c
 | [],acc,_,h=>h
 | (n,k)::r,acc,hf,h=>by
  have hr:∀ y∈r,y.2=.free->∃ c,cells.lookup y.1=some c:=λ y hy=>hf y (mem_cons_of_mem _ hy);unfold mj
  by_cases hk:(k == .free)=true
  ·rw [MI hk];refine lI hr ?_;rw [N4]
   cases hx:x == n with
   | true=>exact⟨_,rfl⟩
   | false=>exact h
  ·rw [MH hk];exact lI hr h
theorem iw{cells:List (Str × Addr)}{x:Str}:∀ {names:List (Str × NameKind)}{acc:List (Str × Addr)},(∀ y∈names,y.2=.free->∃ c,cells.lookup y.1=some c)->names.lookup x=some .free->∃ c,(mj cells names acc).lookup x=some c
 | [],acc,_,h=>by simp at h
 | (n,k)::r,acc,hf,h=>by
  have hr:∀ y∈r,y.2=.free->∃ c,cells.lookup y.1=some c:=λ y hy=>hf y (mem_cons_of_mem _ hy);rw [lookup_cons] at h;unfold mj
  cases hx:x == n with
  | true=>
   rw [hx] at h;have hk:k=.free:=by simpa using h
   subst hk;rw [MI (show (NameKind.free == NameKind.free)=true from rfl)];refine lI hr ⟨(cells.lookup n).getD 0,?_⟩;rw [N4,hx]
  | false=>
   rw [hx] at h
   by_cases hk:(k == .free)=true
   ·rw [MI hk];exact iw hr h
   ·rw [MH hk];exact iw hr h
theorem fA{x:Str}{k:NameKind}:∀ {names:List (Str × NameKind)},names.lookup x=some k->(x,k)∈names
 | [],h=>by simp at h
 | (n,j)::r,h=>by
  rw [N4] at h
  cases hx:x == n with
  | true=>
   rw [hx] at h;have e:x=n:=by simpa using hx
   have e2:j=k:=by simpa using h
   subst e;subst e2;exact MF
  | false=>rw [hx] at h;exact MD _ (fA h)
theorem dH{env:Env}{x:Str}:∀ {names:List (Str × NameKind)},
  (names.map λ (n,k)=>if (k == NameKind.free && env.scope.kind == .function && env.kindOf n == some .cell) then (n,NameKind.cell) else (n,k)).lookup x
   = (names.lookup x).map λ k=>if (k == NameKind.free && env.scope.kind == .function && env.kindOf x == some .cell) then NameKind.cell else k
 | []=>rfl
 | (n,k)::r=>by
  have ih:=@dH env x r
  show List.lookup x ((if (k == NameKind.free && env.scope.kind == .function && env.kindOf n == some .cell)=true then (n,NameKind.cell) else (n,k))::_)=_
  cases hx:x == n with
  | true=>
   have e:x=n:=by simpa using hx
   subst e
   by_cases hc:(k == NameKind.free && env.scope.kind == .function && env.kindOf x == some .cell)=true
   ·rw [MI hc];simp only [N4,N9,Oj];rw [MI hc]
   ·rw [MH hc];simp only [N4,N9,Oj];rw [MH hc]
  | false=>
   by_cases hc:(k == NameKind.free && env.scope.kind == .function && env.kindOf n == some .cell)=true
   ·rw [MI hc];simp only [N4,hx];exact ih
   ·rw [MH hc];simp only [N4,hx];exact ih
abbrev cCx(X:Cx)(scope:Scope)(N':List Str)(C:Addr)(s₀:Shared)(H₀:Hp)(ex:List Addr)(pn:List (Addr × Obj)):Cx:=
 { X with N:=N',s₀:=s₀,H₀:=H₀,env:=compEnvC scope (mj X.env.cells scope.names []) C X.env,outer:=X.stack,stack:=X.stack,ex:=ex,fn:=λ _=>false,pn:=pn,xe:=λ _ _=>False }
def PTs(Y:Cx)(ifs:List Expr)(t:TT):Prop:=
 ∀ (pins:List (Addr × Obj)) (s:Shared) (σ:St) (H:Hp) (Q:Bool->Hp->Prop),Inv Y pins σ H s->t σ H Q →
  wpAny (model Y.prog Y.w) Y.A (forIn ifs true λ c r=>if r=true then do let ok ←isTrue c Y.env (eval c Y.env);pure (ForInStep.yield ok) else pure (ForInStep.yield r)) (TP Y pins σ Q) Y.xe s
def K1:TT:=λ _ H Q=>Q true H
theorem aM{Y:Cx}:PTs Y [] K1:=λ _ _ _ H _ I h=>MM ⟨H,I,h⟩
theorem vD{Y:Cx}{c:Expr}{t:TT}(h:PT Y c t):PTs Y [c] t:=λ pins s σ H Q I hw=>PySem.wpAny_tests_one (h pins s σ H Q I hw)
theorem HOk.but{P:Program}{w:World}{H:Hp}{h h':Heap}{C:Addr}(ok:HOk P w H h)(hn:H C=none)(hs:Heap.SameBut C h h'):HOk P w H h':=λ b ob e=>by
 refine(ok b ob e).stay (λ c w' hc q=>(hs.2 c ?_).trans q) (λ _ q=>q) λ _ _ q=>q;rintro rfl
 rcases hc with rfl|hc
 ·rw [hn] at e;cases e
 ·rw [hn] at hc;cases hc
theorem Un.but{fs ex:List Addr}{H H':Hp}{h h1 h2:Heap}{C:Addr}(u:Un fs ex H H' h h1)(hs:Heap.SameBut C h1 h2)(hC:∀ b o,h.get? b=some o->b ≠ C):Un fs ex H H' h h2 where
 keep:=λ b o e n hb hx=>(hs.2 b (hC b o e)).trans (u.keep b o e n hb hx)
 slot:=λ b o e n hb hx=>by
  obtain⟨sl,q⟩:=u.slot b o e n hb hx;exact⟨sl,(hs.2 b (hC b o e)).trans q⟩
 free:=u.free
 there:=λ b o e hx=>by
  obtain⟨o',q⟩:=u.there b o e hx;exact⟨o',(hs.2 b (hC b o e)).trans q⟩
 tups:=u.tups
 frzs:=u.frzs
 tbls:=u.tbls
section
variable {X:Cx}
def BP(k:Nat)(wi:TI)(g:TG)(tt:TT)(te:TE):TE:=λ σ H Q=>wi σ H λ J H1=>∀ D,H1 D=none->∃ W:Nat->Nat->List V->Hp->Prop,(∃ m,W 0 m [] (upd H1 D (.lst [])))/\∀ i m ys H,W i m ys H →
 (J.stop i H/\Q (.ref D) H)\/(J.go i H/\∃ N:List V->Hp->Prop,(∀ ys' H',N ys' H'->∃ m',m' < m/\W (i+1) m' ys' H') /\
  ∀ x H',J.yld i H x H'->g x (List.replicate k none++σ) H' λ σ2 H2=>(∃ vs:St,vs.length=k/\σ2=vs++σ)/\tt σ2 H2 λ b H3=>if b=true then te σ2 H3 λ y H4=>H4 D=some (.lst ys)/\ys.length < sizeLine/\N (ys++[y]) (upd H4 D (.lst (ys++[y]))) else N ys H3)
theorem xR{Y:Cx}{tg elt iter:Expr}{ifs:List Expr}{scope:Scope}{pos:Pos}{it D:Addr}{g:TG}{tt:TT}{te:TE}{J:It}{fp:List Addr}{tn:Nat->Heap->Prop}{k:Nat}{σ:St}{Q:VK}
  (hc:Y.calm=true) (hx:Y.xe=λ _ _=>False) (hg:PG Y tg g) (ht:PTs Y ifs tt) (he:PE Y elt te) (T:yw Y.prog Y.w Y.K tg J fp it tn) (hf:∀ H:Hp,(∀ b∈fp,H b=none)->∀ b∈fp,oI Y [] H b)
  (W:Nat->Nat->List V->Hp->Prop)
  (turn:∀ i m ys H,W i m ys H->(J.stop i H/\Q (.ref D) H)\/(J.go i H/\∃ N:List V->Hp->Prop,(∀ ys' H',N ys' H'->∃ m',m' < m/\W (i+1) m' ys' H') /\
   ∀ x H',J.yld i H x H'->g x (List.replicate k none++σ) H' λ σ2 H2=>(∃ vs:St,vs.length=k/\σ2=vs++σ)/\tt σ2 H2 λ b H3=>if b=true then te σ2 H3 λ y H4=>H4 D=some (.lst ys)/\ys.length < sizeLine/\N (ys++[y]) (upd H4 D (.lst (ys++[y]))) else N ys H3))
  (n:Nat) (s:Shared) (h:∃ i ys H,Inv Y [] (List.replicate k none++σ) H s/\tn i s.heap/\(∀ b∈fp,H b=none)/\W i n ys H) :
  codeAny (model Y.prog Y.w) Y.A (.compLoop (.ListComp elt [⟨tg,iter,ifs,0⟩] scope pos) 0 (.ref it) (.ref D) Y.env) (λ r s'=>r=.ok .next/\∃ H',Inv Y [] (List.replicate k none++σ) H' s'/\Q (.ref D) H') s:=by
 refine codeAny_loop rfl (λ n s=>∃ i ys H,Inv Y [] (List.replicate k none++σ) H s/\tn i s.heap/\(∀ b∈fp,H b=none)/\W i n ys H) ?_ n h;rintro n s3 ⟨i,ys,H3,I3,st3,fr3,w3⟩
 show wpAny _ Y.A ((compTurn (.ListComp elt [⟨tg,iter,ifs,0⟩] scope pos) 0 (.ref it) (.ref D) Y.env).onRaise (λ x=>do noteFrame x Y.env;theTreesLotGoes x)) _ _ s3
 refine PySem.wpAny_noted ?_;rw [PySem.compTurn_list]
 have no:∀ {α:Type} {m:Sem α} {P:α->Shared->Prop} {E:Value->Shared->Prop} {s:Shared},wpAny (model Y.prog Y.w) Y.A m P Y.xe s->wpAny (model Y.prog Y.w) Y.A m P E s:=λ {α m P E s} h=>
  Oq h (λ _ _ q=>q) λ _ _ q=>by rw [hx] at q;exact q.elim
 refine My (Pe (My ?_))
 rcases turn i n ys H3 w3 with ⟨stop,qn⟩|⟨go,N,hN,step⟩
 ·refine thn (T.done Y rfl rfl rfl hc i [] s3 (List.replicate k none++σ) H3 _ I3 (hf H3 fr3) st3 stop) λ r s4 ⟨hr,I4⟩=>?_;subst hr;exact MM ⟨rfl,H3,I4,qn⟩
 ·refine thn (T.item Y rfl rfl rfl hc i [] s3 (List.replicate k none++σ) H3 _ I3 (hf H3 fr3) st3 go) λ r s4 ⟨u,hr,h4⟩=>?_;subst hr;refine My (thn h4 λ _ s5 ⟨x,H5,I5,r5,y5,st5,fr5⟩=>?_);have I5':=I5.pinned (hf H5 fr5) (T.obj _ _ st5);refine My (no (thn (hg _ s5 (List.replicate k none++σ) H5 x u _ I5' r5 (step x H5 y5)) λ _ s6 ⟨σ6,H6,I6,⟨vs,hvs,e6⟩,q6⟩=>?_));subst e6
  have forget:∀ {pins:List (Addr × Obj)} {H:Hp} {s:Shared},Inv Y pins (vs++σ) H s->Inv Y pins (List.replicate k none++σ) H s:=λ {pins H s} I=>I.weak (by simp [hvs]) λ i v e=>by
   by_cases hi:i < k
   ·rw [Nu (by simpa using hi)] at e;simp [OX,hi] at e
   ·rw [Ng (by simpa using O0 hi)] at e;rw [Ng (by omega)]
    simpa [hvs] using e
  refine My (no (thn (ht _ s6 (vs++σ) H6 _ I6 q6) λ b s7 ⟨H7,I7,q7⟩=>?_))
  have again:∀ {H8:Hp} {s8:Shared} {ys':List V},Inv Y ([]++mC fp s5.heap) (vs++σ) H8 s8->N ys' H8->∃ m,m < n/\∃ i ys H,Inv Y [] (List.replicate k none++σ) H s8/\tn i s8.heap/\(∀ b∈fp,H b=none)/\W i m ys H:=λ {H8 s8 ys'} I8 n8=>by
   obtain⟨m',hm,w8⟩:=hN ys' H8 n8;refine⟨m',hm,i+1,ys',H8,forget I8.unpinned,T.keep _ _ _ st5 λ b hb o e=>(I8.pin (b,o) (Ni _ (Ni _ (ft hb e)))).1,λ b hb=>?_,w8⟩;obtain⟨o,e,d⟩:=T.obj _ _ st5 b hb;exact(I8.pin (b,o) (Ni _ (Ni _ (ft hb e)))).2.1
  cases b with
  | false=>
   rw [MH MQ] at q7;exact MM ⟨rfl,again I7 q7⟩
  | true=>
   rw [MI rfl] at q7;refine My (My (no (thn (he _ s7 (vs++σ) H7 _ I7 q7) λ y s8 ⟨y',H8,I8,ry,q8,l8,n8⟩=>?_)));exact My (no (thn (dQ _ s8 (vs++σ) H8 (.ref D) [y'] (.ref D) [y] (λ _ H'=>N (ys++[y']) H') I8 rfl (.cons ry .nil) ⟨D,ys,y',rfl,rfl,q8,l8,n8⟩) λ _ s9 ⟨_,H9,I9,_,q9⟩=>MM (MM ⟨rfl,again I9 q9⟩)))
structure iN(X:Cx)(scope:Scope)(N':List Str)(k:Nat):Prop where
 cell:∀ y∈scope.names,y.2 ≠ .cell
 kind:scope.kind=.function
 names:∀ y∈scope.names,y.2=.local->scope.names.lookup y.1=some .local
 free:∀ y∈scope.names,y.2=.free->X.env.scope.names.lookup y.1=some .cell
 len:N'.length=k+X.N.length
 sub:∀ i x,N'[k+i]? = some x->scope.names.lookup x=some .free->X.N[i]? = some x
 loc:∀ i x,N'[k+i]? = some x->scope.names.lookup x ≠ some .local
theorem iN.cells{scope:Scope}{N':List Str}{k:Nat}{pins:List (Addr × Obj)}{σ:St}{H:Hp}{s:Shared}(c:iN X scope N' k)(I:Inv X pins σ H s):∀ y∈scope.names,y.2=.free->∃ a,X.env.cells.lookup y.1=some a:=λ y hy e=>
 I.ok.has y.1 (.inl (c.free y hy e))
theorem Aq{scope:Scope}{N':List Str}{k:Nat}{pins:List (Addr × Obj)}{σ:St}{H:Hp}{s s₄:Shared}{fp:List Addr}{m:Str->Option Value}(c:iN X scope N' k)(hc:X.calm=true)(I:Inv X pins σ H s)
  (hf:∀ b∈fp,oI X pins H b) (hfl:∀ b∈fp,b < s.heap.objs.size) (hb:∀ b∈fp,X.base.get? b=none) (hns:s₄.heap.Ns s.heap.objs.size m) (hk:∀ b o,s.heap.get? b=some o->s₄.heap.get? b=some o) (ho:s₄.os=s.os) (hg:s₄.gens=s.gens) :
  Inv (cCx X scope N' s.heap.objs.size s H fp (X.pn++pins)) [] (List.replicate k none++σ) H s₄:=by
 have hcl:=c.cells I
 have sub:∀ x a,(mj X.env.cells scope.names []).lookup x=some a->X.env.cells.lookup x=some a:=λ x a e=>by
  rcases lH hcl e with q|q
  ·simp at q
  ·exact q
 have kinds:∀ x,(compEnvC scope (mj X.env.cells scope.names []) s.heap.objs.size X.env).kindOf x=some .cell\/(compEnvC scope (mj X.env.cells scope.names []) s.heap.objs.size X.env).kindOf x=some .free->scope.names.lookup x=some .free:=λ x hx=>by
  have e:(compEnvC scope (mj X.env.cells scope.names []) s.heap.objs.size X.env).kindOf x=(scope.names.lookup x).map λ k=>if (k == NameKind.free && X.env.scope.kind == .function && X.env.kindOf x == some .cell) then NameKind.cell else k:=dH
  rw [e] at hx
  cases q:scope.names.lookup x with
  | none=>rw [q] at hx;simp at hx
  | some j=>
   rw [q] at hx;have hj:j ≠ .cell:=c.cell (x,j) (fA q)
   cases j<;>simp_all
 have fresh:∀ b,s.heap.objs.size<=b->s.heap.get? b=none:=λ b hb=>Oh hb;have ne:∀ b o,s.heap.get? b=some o->b ≠ s.heap.objs.size:=λ b o e=>MS (MJ e)
 have cl_lt:∀ x a,X.env.cells.lookup x=some a->a < s.heap.objs.size:=λ x a e=>by
  obtain⟨v,o,h1,_⟩:=I.cell x a e;exact MJ h1
 refine⟨⟨I.ok.mod,c.kind,I.ok.glob,I.ok.blt,MG _,λ x y a e1 e2=>I.ok.inj x y a (sub x a e1) (sub y a e2),λ x hx=>iw hcl (kinds x hx),(λ _ _ z=>nomatch z),I.ok.hd,I.ok.frames,.inl rfl,λ b hb'=>⟨MS (hfl b hb'),λ x a e=>(hf b hb').2.2.2.2.1 x a (sub x a e)⟩,
   I.bs,Nm I.ok.bsz I.sz,(λ b o e hb'=>by rw [hb b hb'] at e;cases e),λ b hb' hz=>?_,I.stack,I.stkFree⟩,ho,by rw [hg];exact I.bare,Un.kept hk,⟨m,hns,λ i x v e1 e2 e3=>?_⟩,λ x a e=>?_,I.hok.fresh (MG _),λ x a e=>I.freeC x a (sub x a e),λ p hp=>?_,I.hok.kept hk,?_⟩
 ·rcases MU.mp (I.stkSub b hz) with z|z
  ·exact(hf b hb').2.1 z
  ·exact(hf b hb').2.2.1 z
 ·have hi:k<=i:=by
   refine O0 λ hi=>?_;rw [Nu (by simpa using hi)] at e2;simp [OX,hi] at e2
  obtain⟨j,rfl⟩:∃ j,i=k+j:=⟨i - k,by omega⟩;rw [Ng (by simp)] at e2;have e2':σ[j]? = some (some v):=by simpa using e2
  have e:(relabel scope X.env).names.lookup x=(scope.names.lookup x).map λ k=>if (k == NameKind.free && X.env.scope.kind == .function && X.env.kindOf x == some .cell) then NameKind.cell else k:=dH
  have hfree:scope.names.lookup x=some .free:=by
   cases q:scope.names.lookup x with
   | none=>
    rcases e3 with z|z|z
    all_goals (have z':(relabel scope X.env).names.lookup x=some _:=z;rw [e,q] at z';simp at z')
   | some j'=>
    have h1:j' ≠ .cell:=c.cell (x,j') (fA q);have h2:j' ≠ .local:=λ z=>c.loc j x e1 (by rw [q,z])
    rcases e3 with z|z|z
    all_goals (have z':(relabel scope X.env).names.lookup x=some _:=z;rw [e,q] at z';cases j'<;>simp_all)
  have hX:=c.sub j x e1 hfree;have hcellX:=c.free (x,.free) (fA hfree) rfl;obtain⟨m0,hn0,hl0⟩:=I.loc;obtain⟨u,r,l⟩:=hl0 j x v hX e2' (.inr (.inl hcellX));refine⟨u,r,?_⟩
  rcases l with ⟨z,_⟩|⟨_,a,ea,hz⟩
  ·have z':X.env.scope.names.lookup x=some .local:=z;rw [hcellX] at z';cases z'
  ·obtain⟨a',ea'⟩:=iw (acc:=[]) hcl hfree;have e4:=sub x a' ea';rw [ea] at e4;cases e4;refine .inr ⟨.inl ?_,a,ea',?_⟩
   ·show (relabel scope X.env).names.lookup x=some .cell
    rw [e,hfree];have k1:(X.env.scope.kind == .function)=true:=by rw [I.ok.kind];rfl
    have k2:(X.env.kindOf x == some .cell)=true:=by
     have:X.env.kindOf x=some .cell:=hcellX;rw [this];rfl
    simp [k1,k2]
   ·obtain⟨o,h1,h2⟩:=hz;exact⟨o,hk _ _ h1,h2⟩
 ·obtain⟨v,o,h1,h2⟩:=I.cell x a (sub x a e);exact⟨v,o,hk _ _ h1,h2⟩
 ·have hp':p∈X.pn++pins:=by simpa using hp
  obtain⟨e,n,nl,nf,d⟩:=I.pin p hp';refine⟨hk _ _ e,n,ne _ _ e,λ z=>?_,d⟩
  rcases MU.mp (I.stkSub _ z) with z|z
  ·exact nl z
  ·exact nf z
 ·show (List.replicate k none++σ).length=N'.length
  rw [c.len,ML,List.length_replicate,I.len]
theorem jV{elt iter tg:Expr}{ifs:List Expr}{scope:Scope}{pos:Pos}{g:TG}{tt:TT}{te:TE}{N':List Str}{k:Nat}{it:Addr}{J:It}{fp:List Addr}{tn:Nat->Heap->Prop}{pins:List (Addr × Obj)}{σ:St}{H:Hp}{s:Shared}{Q:VK}{RR:Value->Addr->Result->Shared->Prop}{E:Value->Shared->Prop}
  (c:iN X scope N' k) (hc:X.calm=true) (I:Inv X pins σ H s) (T:yw X.prog X.w X.K tg J fp it tn) (st:tn 0 s.heap) (hf:∀ b∈fp,oI X pins H b)
  (hg:∀ C s₀ H₀ ex pn,PG (cCx X scope N' C s₀ H₀ ex pn) tg g) (ht:∀ C s₀ H₀ ex pn,PTs (cCx X scope N' C s₀ H₀ ex pn) ifs tt) (he:∀ C s₀ H₀ ex pn,PE (cCx X scope N' C s₀ H₀ ex pn) elt te)
  (h:∀ D,H D=none->∃ W:Nat->Nat->List V->Hp->Prop,(∃ m,W 0 m [] (upd H D (.lst [])))/\∀ i m ys H,W i m ys H →
   (J.stop i H/\Q (.ref D) H)\/(J.go i H/\∃ N:List V->Hp->Prop,(∀ ys' H',N ys' H'->∃ m',m' < m/\W (i+1) m' ys' H') /\
    ∀ x H',J.yld i H x H'->g x (List.replicate k none++σ) H' λ σ2 H2=>(∃ vs:St,vs.length=k/\σ2=vs++σ)/\tt σ2 H2 λ b H3=>if b=true then te σ2 H3 λ y H4=>H4 D=some (.lst ys)/\ys.length < sizeLine/\N (ys++[y]) (upd H4 D (.lst (ys++[y]))) else N ys H3))
  (fin:∀ D C s' H' m,s'.heap.Ns C m->C ≠ X.env.locals->(∀ x a,X.env.cells.lookup x=some a->a ≠ C)->(H' C=none/\X.s₀.heap.objs.size<=C/\∀ p∈X.pn++pins,p.1 ≠ C)->(∀ h',Heap.SameBut C s'.heap h'->Inv X pins σ H' { s' with heap:=h' })->Q (.ref D) H'->RR (.ref D) C (.ok .next) s') :
  wpAny (model X.prog X.w) X.A (newList []) (λ acc s₃=>wpAny (model X.prog X.w) X.A (newFunctionEnv scope X.env.globals (mj X.env.cells scope.names []) [] X.env.qual none .none (some X.env)) (λ cenv s₄=>
   codeAny (model X.prog X.w) X.A (.compStart (.ListComp elt [⟨tg,iter,ifs,0⟩] scope pos) 0 (.ref it) acc { cenv with scope:=relabel scope X.env }) (RR acc cenv.locals) s₄) E s₃) E s:=by
 refine wpAny_newObj_type (wpAny_newFunctionEnv c.cell (by intro y hy;simp at hy) (λ h₁ hns₁ hsb₁=>?_) c.kind);dsimp only at hns₁ hsb₁ ⊢;have I3:Inv X pins σ (upd H s.heap.objs.size (.lst [])) { s with heap:=s.heap.push { cls:=.type "list",data:=.seq ([]:List Value).toArray },toks:=s.toks }:=I.lnew (ys:=[]) (its:=[]) .nil (Nat.zero_le _);generalize hH2:s.heap.push { cls:=.type "list",dict:=none,data:=.seq ([]:List Value).toArray }=hp at hns₁ hsb₁ I3 ⊢;have hlt:∀ b o,s.heap.get? b=some o->hp.get? b=some o:=λ b o e=>by rw [←hH2];exact Heap.get?_push_of_some _ e
 have hnD:H s.heap.objs.size=none:=I.hok.fresh (MG _);have kp:∀ b o,hp.get? b=some o->h₁.get? b=some o:=λ b o e=>hsb₁.extBut b o (MS (MJ e)) (Mz _ e)
 have stk:∀ b∈fp,s.heap.get? b ≠ none:=λ b hb z=>by
  obtain⟨o,e,_⟩:=T.obj _ _ st b hb;rw [z] at e;cases e
 have flt:∀ b∈fp,b < s.heap.objs.size:=λ b hb=>by
  obtain⟨o,e,_⟩:=T.obj _ _ st b hb;exact MJ e
 have fpD:∀ b∈fp,b ≠ s.heap.objs.size:=λ b hb=>MS (flt b hb)
 have hf3:∀ b∈fp,oI X pins (upd H s.heap.objs.size (.lst [])) b:=λ b hb=>by
  obtain⟨a1,a2⟩:=hf b hb;exact⟨by rw [ai (fpD b hb)];exact a1,a2⟩
 have hnb:∀ b∈fp,X.base.get? b=none:=λ b hb=>by
  cases e:X.base.get? b with
  | none=>rfl
  | some o=>
   rcases (hf b hb).2.2.2.1 with z|z
   ·exact absurd z (I.ok.noex b o e)
   ·have:=MJ (I.ok.bs b o e).1;exact absurd (MN this z) (NV _)
 have hsz:s.heap.objs.size < hp.objs.size:=by rw [←hH2,Nz];exact Oa _
 have IY:=Aq (s₄:={ s with heap:=h₁,toks:=s.toks+([]:List (Str × Value)).length }) (fp:=fp) c hc I3 hf3 (λ b hb=>OI (flt b hb) hsz) hnb hns₁ kp rfl rfl;obtain⟨W,⟨m0,w0⟩,turn⟩:=h s.heap.objs.size hnD
 have run:=xR (Y:=cCx X scope N' hp.objs.size { s with heap:=hp,toks:=s.toks } (upd H s.heap.objs.size (.lst [])) fp (X.pn++pins)) (tg:=tg) (elt:=elt) (iter:=iter) (ifs:=ifs) (scope:=scope) (pos:=pos) (it:=it) (D:=s.heap.objs.size) (k:=k) (σ:=σ) (Q:=Q)
  hc rfl (hg _ _ _ _ _) (ht _ _ _ _ _) (he _ _ _ _ _) T (λ H' hn b hb=>⟨hn b hb,MS (OI (flt b hb) hsz),λ z=>(IY.ok.exfs b hb) z,.inl hb,λ x a e=>(IY.ok.exf b hb).2 x a e,λ p hp=>by
   have hp':p∈X.pn++pins:=by simpa using hp
   exact(hf b hb).2.2.2.2.2 p hp'⟩) W turn m0
 have st₁:tn 0 h₁:=T.keep _ _ _ st λ b hb o e=>kp b o (hlt b o e);have go:=run { s with heap:=h₁,toks:=s.toks+([]:List (Str × Value)).length } ⟨0,[],_,IY,st₁,λ b hb=>(hf3 b hb).1,w0⟩
 have out:∀ r s',(r=Except.ok Flow.next/\∃ H',Inv (cCx X scope N' hp.objs.size { s with heap:=hp,toks:=s.toks } (upd H s.heap.objs.size (.lst [])) fp (X.pn++pins)) [] (List.replicate k none++σ) H' s'/\Q (.ref s.heap.objs.size) H')->RR (.ref s.heap.objs.size) hp.objs.size r s':=by
  rintro r s' ⟨rfl,H',J',q⟩;obtain⟨m,hn,_⟩:=J'.loc;have hC:hp.objs.size ≠ X.env.locals:=OH (MN I.lt (OJ hsz));refine fin _ _ s' H' m hn hC (λ x a e=>?_) ⟨J'.free,Nm I.sz (OJ hsz),λ p hp'=>MS (OI (MJ (I.pin p hp').1) hsz)⟩ (λ h' hs'=>?_) q
  ·obtain⟨v,o,h1,_⟩:=I.cell x a e;exact MS (OI (MJ h1) hsz)
  ·refine I.call' (ch:=fp) ?_ ?_ ?_ J'.bare λ b hb=>⟨(hf b hb).2.2.2.1,(hf b hb).2.1,(hf b hb).2.2.2.2.1,(hf b hb).2.2.2.2.2⟩
   ·exact J'.os
   ·have u1:Un (frs X.stack) fp H (upd H s.heap.objs.size (.lst [])) s.heap hp:=Un.laid hlt (MG _) hnD;exact(u1.trans J'.base).but hs' λ b o e=>MS (OI (MJ e) hsz)
   ·exact J'.hok.but J'.free hs'
 exact codeAny_compStart_list (N6 go out) (T.self _ 0 _ _ _ st₁ (N6 go out))
theorem CP{elt iter tg:Expr}{ifs:List Expr}{scope:Scope}{pos:Pos}{wi:TI}{g:TG}{tt:TT}{te:TE}{N':List Str}{k:Nat}
  (c:iN X scope N' k) (hc:X.calm=true) (hi:PI X tg iter wi)
  (hg:∀ C s₀ H₀ ex pn,PG (cCx X scope N' C s₀ H₀ ex pn) tg g) (ht:∀ C s₀ H₀ ex pn,PTs (cCx X scope N' C s₀ H₀ ex pn) ifs tt) (he:∀ C s₀ H₀ ex pn,PE (cCx X scope N' C s₀ H₀ ex pn) elt te)
  (hs:∀ x,foldedSetIterable iter X.env x=pure x:=by intro _;rfl):PE X (.ListComp elt [⟨tg,iter,ifs,0⟩] scope pos) (BP k wi g tt te):=by
 intro pins s σ H Q I h;rw [PySem.eval_ListComp];refine Pu (use:=none) rfl hs (gz (c.cells I)) c.kind c.names (thn (hi pins s σ H _ I h) λ v s1 h1=>thn h1 λ itv s2 h2=>?_);obtain⟨it,fp,tn,J,H2,rfl,I2,T,st2,f2,hW⟩:=h2;refine jV (RR:=λ acc C=>PySem.compPost (model X.prog X.w) X.A X.xe none (EP X pins σ Q) acc C) c hc I2 T st2 f2 hg ht he hW ?_;intro D C s' H' m hn _ _ _ hI q;exact⟨m,hn,λ h' hs'=>⟨.ref D,H',hI h' hs',rfl,q⟩⟩
def Fg(i:Nat)(te:TE):TS:=λ D σ H=>te σ H λ x H1=>D.nx (σ.set i (some x)) H1
theorem CF{elt iter tg:Expr}{ifs:List Expr}{scope:Scope}{pos spos py:Pos}{wi:TI}{g:TG}{tt:TT}{te:TE}{N':List Str}{k i:Nat}{y:Str}
  (hN:X.N.Nodup) (hi':X.N[i]? = some y) (hy:Loc X.env.scope y)
  (c:iN X scope N' k) (hc:X.calm=true) (hi:PI X tg iter wi)
  (hg:∀ C s₀ H₀ ex pn,PG (cCx X scope N' C s₀ H₀ ex pn) tg g) (ht:∀ C s₀ H₀ ex pn,PTs (cCx X scope N' C s₀ H₀ ex pn) ifs tt) (he:∀ C s₀ H₀ ex pn,PE (cCx X scope N' C s₀ H₀ ex pn) elt te)
  (hsw:swapsWith (.ListComp elt [⟨tg,iter,ifs,0⟩] scope pos) (some (.Name y py)) spos.line X.env=pure true:=by rfl)
  (hs:∀ x,foldedSetIterable iter X.env x=pure x:=by intro _;rfl) (hf:X.fn y=true\/X.env.scope.names.lookup y=some .local:=by first|exact .inl rfl|exact .inr rfl|assumption) :
  PS X (.Assign [.Name y py] (.ListComp elt [⟨tg,iter,ifs,0⟩] scope pos) spos) (Fg i (BP k wi g tt te)):=by
 intro pins s σ H D I h;rw [PySem.exec_Assign_Name_used _ _ _ _ hsw];refine My (Pe (My ?_))
 show wpAny _ X.A (do let _ ←comprehension (.ListComp elt [⟨tg,iter,ifs,0⟩] scope pos) scope X.env _ (newList []) false (eval iter X.env) (some (assign (.Name y py) X.env))) _ _ s
 refine My (thn (Pu (use:=some (assign (.Name y py) X.env)) (Q:=λ _ s'=>SP X pins D .next s') rfl hs (gz (c.cells I)) c.kind c.names (thn (hi pins s σ H _ I h) λ v s1 h1=>thn h1 λ itv s2 h2=>?_)) λ _ s' hq=>MM (MM hq));obtain⟨it,fp,tn,J,H2,rfl,I2,T,st2,f2,hW⟩:=h2;refine jV (Q:=λ x H1=>D.nx (σ.set i (some x)) H1) (RR:=λ acc C=>PySem.compPost (model X.prog X.w) X.A X.xe (some (assign (.Name y py) X.env)) (λ _ s'=>SP X pins D .next s') acc C) c hc I2 T st2 f2 hg ht he hW ?_;intro D' C s' H' m hn hCl hCc hCo hI q
 show wpAny _ X.A (assign (.Name y py) X.env (.ref D')) _ _ s'
 have I':Inv X pins σ H' s':=hI s'.heap (Heap.SameBut.refl _ _);refine wpAny_assign_Name (mK I' hN hi' hy (show bF (.ref D') (.ref D') from rfl) (λ s'' I'' ⟨a,sb,ha⟩=>?_) hf)
 have hCa:C ≠ a:=by
  rcases ha with rfl|ha
  ·exact hCl
  ·exact λ z=>hCc _ _ ha z.symm
 refine⟨m,hn.sameBut sb hCa,λ h' hs'=>⟨_,H',?_,q⟩⟩;exact I''.turned (t':=s''.toks) (λ b o hb e=>(hs'.2 b hb).trans e) hCo.1 hCl (.inr hCo.2.1) hCc hCo.2.2
end
def my(h:Heap)(e:Addr)(cls:Value)(d:Option Addr)(T:Addr):Prop:=
 ∃ oe vs oT ts,h.get? e=some oe/\oe.cls=cls/\oe.dict=d/\oe.data=.fields vs/\vs[1]? = some (.ref T)/\T ≠ e/\h.get? T=some oT/\oT.data=.fields ts/\ts[3]? = some .none/\vs[2]? = some .none
def CX1(P:Program)(w:World):CXT:=λ outer H s E ev s'=>∃ e T cls d H',ev=.ref e/\s'.os=s.os/\AllBare s'.gens/\Un (frs outer) [] H H' s.heap s'.heap/\HOk P w H' s'.heap /\
 s.heap.get? e=none/\s.heap.get? T=none/\H' e=none/\H' T=none/\my s'.heap e cls d T/\(∀ dx,d=some dx->∃ fs,H' dx=some (.xd fs))/\E cls d H'
theorem xO(f:Array Value->Array Value)(o:Obj):(Obj.mapFields f o).dict=o.dict:=by
 unfold Obj.mapFields;split<;>rfl
structure uH(fs:List Addr)(e:Addr)(no:Addr->Prop)(h h':Heap):Prop where
 keep:∀ b o,b ≠ e->¬ no b->b ∉ fs->h.get? b=some o->h'.get? b=some o
 slot:∀ b o,b ≠ e->¬ no b->b∈fs->h.get? b=some o->∃ sl,h'.get? b=some { o with slots:=sl }
 size:h.objs.size<=h'.objs.size
section
variable {M:Model}{A:Around}{E:Value->Shared->Prop}{s:Shared}
theorem BA{base:Heap}{env:Env}{outer:List Env}{L e:Addr}{oe:Obj}{vs:Array Value}{head:Value}{hadNext:Bool}{Q:Unit->Shared->Prop}
  (hfr:A.frames=some (env::outer)) (hl:s.heap.FunFrames base (env::outer)) (hf:env.frame=some L) (he:s.heap.get? e=some oe) (hd:oe.data=.fields vs) (hsz:1 < vs.size) (h2c:vs[2]? = some .none)
  (hQ:∀ h',uH (frs (env::outer)) e (λ _=>False) s.heap h'->(∃ T oe' vs' oT ts,s.heap.get? T=none/\h'.get? e=some oe'/\oe'.cls=oe.cls/\oe'.dict=oe.dict/\oe'.data=.fields vs'/\vs'[1]? = some (.ref T)/\T ≠ e/\h'.get? T=some oT/\oT.data=.fields ts/\ts[3]? = some (rawInt L)/\vs'[2]? = some .none)->Q () { s with heap:=h' }) :
  wpAny M A (do let a ←frameOf env;let pl ←entryPlaceOf L hadNext;let b ←EntryCells.newEntry head a .none (rawInt L) .none pl;setField (.ref e) 1 b) Q E s:=by
 have efr:e ∉ frs (env::outer):=λ z=>by
  obtain⟨_,o,q1,q2⟩:=hl.mem z;rw [he] at q1;cases q1;exact q2 vs hd
 refine wpAny_bind (wpAny_frameOf_fun hfr hl hf λ g1 sg=>?_);refine wpAny_bind (wpAny_entryPlaceOf λ pl ipl=>?_);unfold EntryCells.newEntry newFields;refine wpAny_bind (wpAny_newObj_type ?_ (ipl.sizeOk5 _ _ _ _ _));have e1:g1.get? e=some oe:=(sg.2.1 e efr).trans he;generalize hnew:({ cls:=.type "traceback",dict:=none,data:=.fields ([head,.ref L,.none,rawInt L,.none]++(if pl.isEmpty then List.replicate 6 Value.none else pl)).toArray }:Obj)=oN;have dN:oN.data=.fields ([head,.ref L,.none,rawInt L,.none]++(if pl.isEmpty then List.replicate 6 Value.none else pl)).toArray:=by rw [←hnew]
 have e2:(g1.push oN).get? e=some oe:=Mz _ e1;refine OB e2 hd hsz (hQ _ ?_ ?_)
 ·have other:∀ b o,b ≠ e->g1.get? b=some o->((g1.push oN).update e (Obj.mapFields (·.setIfInBounds 1 (Value.ref g1.objs.size)))).get? b=some o:=λ b o hb q=>by
   rw [NW _ _ (Nd hb)];exact Mz _ q
  refine⟨λ b o hb _ hfs q=>other b o hb ((sg.2.1 b hfs).trans q),λ b o hb _ _ q=>?_,?_⟩
  ·obtain⟨sl,q'⟩:=sg.2.2 b o q;exact⟨sl,other b _ hb q'⟩
  ·have z1:g1.objs.size=s.heap.objs.size:=sg.1;have z2:=((Oo (g1.push oN) e (Obj.mapFields (·.setIfInBounds 1 (Value.ref g1.objs.size))))).1;rw [z2,Nz];omega
 ·have ne:g1.objs.size ≠ e:=OH (MJ e1);have d3:=NZ hd (·.setIfInBounds 1 (Value.ref g1.objs.size));refine⟨g1.objs.size,_,_,oN,_,?_,NN _ e2 (NM d3),Obj.cls_mapFields _ _,xO _ _,d3,by simp [hsz],ne,?_,dN,by simp,by rw [Pt (by decide)];exact h2c⟩
  ·have z1:g1.objs.size=s.heap.objs.size:=sg.1;rw [z1];exact Oh (MG _)
  ·rw [NW _ _ (Nd ne)];exact MO _ (NM dN)
theorem vT{e T:Addr}{oe oT:Obj}{vs ts:Array Value}{Q:Unit->Shared->Prop}(he:s.heap.get? e=some oe)(hd:oe.data=.fields vs)(h1:vs[1]? = some (.ref T))(hT:s.heap.get? T=some oT)(hdT:oT.data=.fields ts)(h3:3 < ts.size)(ne:T ≠ e)(h2c:vs[2]? = some .none)
  (hQ:∀ h',(∀ b,b ≠ T->h'.get? b=s.heap.get? b)->h'.objs.size=s.heap.objs.size->my h' e oe.cls oe.dict T->Q () { s with heap:=h' }):wpAny M A (setFlight (.ref e) none) Q E s:=by
 unfold setFlight;refine wpAny_bind (wpAny_field he hd h1 ?_);rw [if_pos (show (Value.ref T != Value.none)=true from by simp)];have sb:=Heap.SameBut.update s.heap T (Obj.mapFields (·.setIfInBounds 3 ((none:Option Addr).elim Value.none λ f=>rawInt f)));refine wpAny_setField hT hdT h3 (hQ _ sb.2 sb.1 ?_);have d3:=Obj.data_mapFields hdT (·.setIfInBounds 3 ((none:Option Addr).elim Value.none λ f=>rawInt f));exact⟨oe,vs,_,_,(sb.2 e (Ne.symm ne)).trans he,rfl,rfl,hd,h1,ne,Heap.get?_update_self _ hT (Obj.isFreed_of_fields d3),d3,by simp [h3],h2c⟩
theorem zp{base:Heap}{env:Env}{outer:List Env}{L e:Addr}{oe:Obj}{vs:Array Value}{Q:Unit->Shared->Prop}
  (hfr:A.frames=some (env::outer)) (hl:s.heap.FunFrames base (env::outer)) (hf:env.frame=some L) (he:s.heap.get? e=some oe) (hd:oe.data=.fields vs) (h1:vs[1]? = some .none) (h2c:vs[2]? = some .none)
  (hQ:∀ h' T,uH (frs (env::outer)) e (λ _=>False) s.heap h'->s.heap.get? T=none->my h' e oe.cls oe.dict T->Q () { s with heap:=h' }) :
  wpAny M A (noteFrame (.ref e) env) (λ _ s2=>wpAny M A (setFlight (.ref e) none) Q E s2) E s:=by
 unfold noteFrame;simp only [hf];refine wpAny_bind (wpAny_field he hd h1 ?_);rw [if_neg (by decide)];refine BA hfr hl hf he hd (Array.getElem?_eq_some_iff.mp h1).1 h2c λ g ng hx=>?_;obtain⟨T,oe',vs',oT,ts,nT,q1,q2,q2d,q3,q4,ne,q5,q6,q7,q8⟩:=hx;refine vT (s:={ s with heap:=g }) q1 q3 q4 q5 q6 (Array.getElem?_eq_some_iff.mp q7).1 ne q8 λ g' sb sz ex=>?_;rw [q2,q2d] at ex;have lt:∀ b o,s.heap.get? b=some o->b ≠ T:=λ b o q z=>by rw [z,nT] at q;cases q
 exact hQ g' T ⟨λ b o hb hn hfs q=>(sb b (lt b o q)).trans (ng.keep b o hb hn hfs q),λ b o hb hn hfs q=>by
  obtain⟨sl,q'⟩:=ng.slot b o hb hn hfs q;exact⟨sl,(sb b (lt b o q)).trans q'⟩,Nm ng.size (Pb sz.symm)⟩ nT ex
theorem mT{base:Heap}{env:Env}{outer:List Env}{L e T:Addr}{cls:Value}{dd:Option Addr}{Q:Unit->Shared->Prop}
  (hfr:A.frames=some (env::outer)) (hl:s.heap.FunFrames base (env::outer)) (hf:env.frame=some L) (hx:my s.heap e cls dd T) (hfe:e ∉ frs (env::outer)) (hfT:T ∉ frs (env::outer)) (hb:base.get? T=none)
  (hQ:∀ h' T',uH (frs (env::outer)) e (λ b=>b=T) s.heap h'->s.heap.get? T'=none->my h' e cls dd T'->Q () { s with heap:=h' }) :
  wpAny M A (noteFrame (.ref e) env) (λ _ s2=>wpAny M A (setFlight (.ref e) none) Q E s2) E s:=by
 obtain⟨oe,vs,oT,ts,he,rfl,rfl,hd,h1,ne,hT,hdT,h3,h2c⟩:=hx;unfold noteFrame;simp only [hf];refine wpAny_bind (wpAny_field he hd h1 ?_);rw [if_pos (show (Value.ref T != Value.none)=true from by simp)];refine wpAny_bind (wpAny_field hT hdT h3 ?_);rw [if_neg (show ¬ ((Value.none == rawInt L)=true) from by simp [rawInt])];have sb0:=Heap.SameBut.update s.heap T (Obj.mapFields (·.setIfInBounds 3 Value.none));refine wpAny_bind (wpAny_setField hT hdT (Array.getElem?_eq_some_iff.mp h3).1 ?_);generalize hg0:s.heap.update T (Obj.mapFields (·.setIfInBounds 3 Value.none))=g0 at sb0;have fl:g0.FunFrames base (env::outer):=hl.of_keeps λ b o q hnf=>⟨o,(sb0.2 b (λ z=>by rw [z,hT] at q;cases q;exact hnf ts hdT)).trans q,rfl⟩;have he0:g0.get? e=some oe:=(sb0.2 e (Ne.symm ne)).trans he;refine BA (s:={ s with heap:=g0 }) hfr fl hf he0 hd (Array.getElem?_eq_some_iff.mp h1).1 h2c λ g ng hx=>?_;obtain⟨T',oe',vs',oT',ts',nT,q1,q2,q2d,q3,q4,ne',q5,q6,q7,q8⟩:=hx;refine vT (s:={ s with heap:=g }) q1 q3 q4 q5 q6 (Array.getElem?_eq_some_iff.mp q7).1 ne' q8 λ g' sb sz ex=>?_;rw [q2,q2d] at ex
 have tT:T ≠ T':=λ z=>by
  subst z;have:=NN (Obj.mapFields (·.setIfInBounds 3 Value.none)) hT (NM (NZ hdT _));rw [hg0] at this;have nT':g0.get? T=none:=nT;rw [this] at nT';cases nT'
 have nT0:s.heap.get? T'=none:=(sb0.2 T' (Nd tT)).symm.trans nT;have lt:∀ b o,s.heap.get? b=some o->b ≠ T':=λ b o q z=>by rw [z,nT0] at q;cases q
 exact hQ g' T' ⟨λ b o hb hn hfs q=>(sb b (lt b o q)).trans (ng.keep b o hb (λ z=>z) hfs ((sb0.2 b hn).trans q)),λ b o hb hn hfs q=>by
  obtain⟨sl,q'⟩:=ng.slot b o hb (λ z=>z) hfs ((sb0.2 b hn).trans q);exact⟨sl,(sb b (lt b o q)).trans q'⟩,Nm (Pb sb0.1.symm) (Nm ng.size (Pb sz.symm))⟩ nT0 ex
end
theorem HOk.noted{P:Program}{w:World}{H:Hp}{h h':Heap}{fs:List Addr}{e:Addr}{no:Addr->Prop}(ok:HOk P w H h)(n:uH fs e no h h')(he:H e=none)(hn:∀ b,no b->H b=none)(hf:∀ b∈fs,H b=none):HOk P w H h':=λ b ob q=>by
 refine(ok b ob q).stay (λ c v hc r=>n.keep c v ?_ ?_ ?_ r) (λ _ z=>z) λ _ _ z=>z
 all_goals
  rcases hc with z|z
  all_goals intro k
 ·rw [←z,k,he] at q;cases q
 ·rw [k,he] at z;cases z
 ·rw [←z,hn _ k] at q;cases q
 ·rw [hn _ k] at z;cases z
 ·rw [←z,hf _ k] at q;cases q
 ·rw [hf _ k] at z;cases z
theorem Un.noted{fs fs':List Addr}{H H':Hp}{h h1 h2:Heap}{e:Addr}{no:Addr->Prop}(u:Un fs [] H H' h h1)(n:uH fs' e no h1 h2)(he:h.get? e=none)(hn:∀ b,no b->h.get? b=none)(hs:∀ b∈fs',b∈fs\/h.get? b=none):Un fs [] H H' h h2:=by
 have ne:∀ b o,h.get? b=some o->b ≠ e/\¬ no b:=λ b o q=>⟨λ z=>(by rw [z,he] at q;cases q),λ z=>(by rw [hn b z] at q;cases q)⟩
 have nf:∀ b o,h.get? b=some o->b ∉ fs->b ∉ fs':=λ b o q hb z=>by
  rcases hs b z with k|k
  ·exact hb k
  ·rw [k] at q;cases q
 refine⟨λ b o q a hb hx=>n.keep b o (ne b o q).1 (ne b o q).2 (nf b o q hb) (u.keep b o q a hb hx),λ b o q a hb hx=>?_,u.free,λ b o q hx=>?_,u.tups,u.frzs,u.tbls⟩
 ·obtain⟨sl,r⟩:=u.slot b o q a hb hx
  by_cases hb':b∈fs'
  ·obtain⟨sl',r'⟩:=n.slot b _ (ne b o q).1 (ne b o q).2 hb' r;exact⟨sl',r'⟩
  ·exact⟨sl,n.keep b _ (ne b o q).1 (ne b o q).2 hb' r⟩
 ·obtain⟨o',r⟩:=u.there b o q hx
  by_cases hb':b∈fs'
  ·obtain⟨sl',r'⟩:=n.slot b _ (ne b o q).1 (ne b o q).2 hb' r;exact⟨_,r'⟩
  ·exact⟨_,n.keep b _ (ne b o q).1 (ne b o q).2 hb' r⟩
def BG(CX:CXT)(X:Cx)(E:XK)(σ:St):Prop:=∀ (pins:List (Addr × Obj)) (H:Hp) (s:Shared) (e:Value) (s':Shared),Inv X pins σ H s->CX X.stack H s E e s'->X.xe e s'
def rR(X:Cx)(E:XK)(σ:St):Prop:=∀ (pins:List (Addr × Obj)) (H:Hp) (s:Shared) (h':Heap) (e:Addr) (C:Addr) (us:List Value),Inv X pins σ H s->Heap.MadeExcOf s.heap h' e (.ref C) us->E (.ref C) none H->X.xe (.ref e) { s with heap:=h' }
theorem bK.there{P:Program}{w:World}{H:Hp}{h:Heap}{a:Addr}{o:HO}(x:bK P w H h a o):∃ ob,h.get? a=some ob:=by
 cases o with
 | lst xs=>obtain⟨_,_,_,_,e⟩:=x;exact⟨_,e⟩
 | tup xs=>obtain⟨_,_,_,ob,e,_⟩:=x;exact⟨ob,e⟩
 | dK kvs=>obtain⟨_,_,_,_,ob,_,_,e,_⟩:=x;exact⟨ob,e⟩
 | dT kvs=>obtain⟨_,_,_,_,ob,_,_,e,_⟩:=x;exact⟨ob,e⟩
 | set S n=>obtain⟨ob,_,_,_,e,_⟩:=x;exact⟨ob,e⟩
 | ins C dx fs=>obtain⟨_,_,_,e,_⟩:=x;exact⟨_,e⟩
 | own y=>exact x
 | xd fs=>obtain⟨_,⟨ob,_,_,e,_⟩,_⟩:=x;exact⟨ob,e⟩
 | rng lo hi=>obtain⟨_,_,_,e⟩:=x;exact⟨_,e⟩
 | frz ob u=>exact⟨_,x.1⟩
 | tbl ps=>exact⟨_,x⟩
 | met f y=>exact⟨_,x⟩
 | ext φ=>exact x.2.1
theorem HOk.gone{P:Program}{w:World}{H:Hp}{h:Heap}{a:Addr}(ok:HOk P w H h)(e:h.get? a=none):H a=none:=by
 cases q:H a with
 | none=>rfl
 | some o=>
  obtain⟨ob,z⟩:=(ok a o q).there;rw [e] at z;cases z
theorem Un.gone{fs:List Addr}{H H':Hp}{h h1:Heap}{a:Addr}(u:Un fs [] H H' h h1)(e:h1.get? a=none):h.get? a=none:=by
 cases q:h.get? a with
 | none=>rfl
 | some o=>
  obtain⟨o',z⟩:=u.there a o q (by simp);rw [e] at z;cases z
theorem jP{P:Program}{w:World}{K:W.Frag}{mg:Str->Option Value}{base:Heap}{N:List Str}{qual:Str}{scope:Scope}{f:Addr}{cd:Value}{A:Around}{outer:List Env}{s₀:Shared}{H₀:Hp}{E:XK}{σ:St} :
  rR (yp (CX1 P w) P w K mg base N qual scope f cd A outer s₀ H₀ E) E σ:=by
 intro pins H s h' e C us I hm hE;obtain⟨t,he,_,_⟩:=hm.there
 show wpAny (model P w) (A.deeper (envOfC qual scope s₀.heap.objs.size f cd)) (leaving (envOfC qual scope s₀.heap.objs.size f cd) (.ref e)) _ _ _
 unfold leaving;have un:Un (frs outer) [] H₀ H s₀.heap s.heap:=I.base;have fl:h'.FunFrames base (envOfC qual scope s₀.heap.objs.size f cd::outer):=I.stack.of_keeps λ b o q _=>⟨o,hm.keeps b o q,rfl⟩;refine wpAny_bind (zp (s:={ s with heap:=h' }) (base:=base) (outer:=outer) I.ok.frames fl rfl he rfl rfl rfl λ g T ng nT ex=>?_)
 have nT':s.heap.get? T=none:=by
  cases q:s.heap.get? T with
  | none=>rfl
  | some o=>
   have z:=hm.keeps T o q;have nT2:h'.get? T=none:=nT;rw [nT2] at z;cases z
 have u2:Un (frs outer) [] H₀ H s₀.heap h':=un.trans (Un.kept hm.keeps);refine⟨e,T,.ref C,none,H,rfl,I.os,I.bare,u2.noted ng (un.gone hm.new) (λ _ z=>z.elim) (λ b hb=>?_),(I.hok.kept hm.keeps).noted ng (I.hok.gone hm.new) (λ _ z=>z.elim) I.stkFree,un.gone hm.new,un.gone nT',I.hok.gone hm.new,I.hok.gone nT',ex,(λ _ z=>nomatch z),hE⟩
 rcases MU.mp (I.stkSub b hb) with z|z
 ·exact .inr (by rw [z];exact Oh (MG _))
 ·exact .inl z
theorem jQ{P:Program}{w:World}{K:W.Frag}{mg:Str->Option Value}{base:Heap}{N:List Str}{qual:Str}{scope:Scope}{f:Addr}{cd:Value}{A:Around}{outer:List Env}{s₀:Shared}{H₀:Hp}{E:XK} :
  iM (CX1 P w) (yp (CX1 P w) P w K mg base N qual scope f cd A outer s₀ H₀ E) E:=by
 intro pins σ H s ev s' I hc;obtain⟨e,T,cls,dd,H',rfl,os,bare,un1,hok,ne,nT,He,HT,ex,hxd,hE⟩:=hc
 show wpAny (model P w) (A.deeper (envOfC qual scope s₀.heap.objs.size f cd)) (leaving (envOfC qual scope s₀.heap.objs.size f cd) (.ref e)) _ _ _
 unfold leaving;have I2:Inv _ pins σ H' s':=I.call' (ch:=[]) os un1 hok bare (λ b z=>absurd z (by simp))
 have nf:∀ b,s.heap.get? b=none->b ∉ frs (envOfC qual scope s₀.heap.objs.size f cd::outer):=λ b hb z=>by
  obtain⟨_,o,q,_⟩:=I.stack.mem z;rw [hb] at q;cases q
 have nb:base.get? T=none:=by
  cases q:base.get? T with
  | none=>rfl
  | some o=>
   have:=I.bk T o q;rw [nT] at this;cases this
 have fl:s'.heap.FunFrames base (envOfC qual scope s₀.heap.objs.size f cd::outer):=I2.stack;refine My (mT (base:=base) (outer:=outer) I.ok.frames fl rfl ex (nf e ne) (nf T nT) nb λ g T' ng nT' ex'=>?_);have un0:Un (frs outer) [] H₀ H s₀.heap s.heap:=I.base;have un2:Un (frs outer) [] H₀ H' s₀.heap s'.heap:=I2.base;refine⟨e,T',cls,dd,H',rfl,I2.os,bare,un2.noted ng (un0.gone ne) (λ b z=>by rw [z];exact un0.gone nT) (λ b hb=>?_),hok.noted ng He (λ b z=>by rw [z];exact HT) I2.stkFree,un0.gone ne,un2.gone nT',He,hok.gone nT',ex',hxd,hE⟩
 rcases MU.mp (I.stkSub b hb) with z|z
 ·exact .inr (by rw [z];exact Oh (MG _))
 ·exact .inl z
section
variable {X:Cx}
def Bg(sp:Sp)(dvs:List V)(E:St->XK)(t:TA):TE:=λ σ H Q=>t σ H λ vs H1=>sp (vs++dvs) H1 Q (E σ)
theorem zl{CX:CXT}{k:Nat}{f:Addr}{fd:FuncData}{ps:List Str}{sp:Sp}{ds:List Value}{dvs:List V}{E:St->XK}{x:Str}{e:Expr}{es:List Expr}{t:TA}{p pos:Pos}
  (F:bj X.prog X.w X.K X.mg X.base CX k f fd ps sp) (hr:g7 k X.A) (hg:Gl X x) (hm:X.mg x=some (.ref f)) (hk:W.keepIn X.K (.ref f)=true) (hb:aC X.K fd ps ds) (hd:bq dvs ds) (hx:∀ σ,BG CX X (E σ) σ)
  (ha:PA X (e::es) t) (hdb:(x == ("__debug__":Str))=false:=by decide) (he:starEach (e::es) X.env=(false,eval e X.env)::starEach es X.env:=by rfl) (hpl:(backTo pos (starEach es X.env)).any (·.1)=false:=by rfl) :
  PE X (.Call (.Name x p) (e::es) [] pos) (Bg sp dvs E t):=by
 intro pins s σ H Q I h;refine NY (gD I hg hm ?_ hdb);refine W.callWith_K (h₀:=X.base) I.ok.mod.kin hk (thn (ha pos pins s σ H _ I h) λ us s1 ⟨vs,H1,I1,r,q⟩=>⟨I1.kIn,?_⟩) he hpl;have r2:bq (vs++dvs) (us++ds):=r.append hd;have hl:(us++ds).length=ps.length:=by rw [←r2.length];exact F.len _ _ _ _ q
 refine wpAny_call (N6 (F.run X.A X.stack s1 H1 ⟨us,[]⟩ (us++ds) (vs++dvs) Q (E σ) hr I1.env0 (hb s1 us I1.kIn hl) r2 q) λ rr s' hq=>?_)
 cases rr with
 | error ev=>exact hx σ pins H1 s1 ev s' I1 hq
 | ok fl=>
  cases fl with
  | ret u=>exact I1.after hq
  | next=>exact False.elim hq
  | brk=>exact False.elim hq
  | cont=>exact False.elim hq
set_option genInjectivity false in
structure Mr where
 nm:Str
 q:Str
 N:Addr
 bs:List Value
 bm:List Value
 hdct:Bool
 sn:List Str
 sub:List Value
 ab:Bool
 col:Option Bool
 dd:Option Addr
 k0:Option Value
 k1:Option Value
 k2:Option Value
 k3:Option Value
 k5:Option Value
def Br(K:W.Frag)(C:Addr)(z:Option Value)(bmB:List Value)(newId:String):Bool:=match K.lookup C with
 | some ⟨.type "type",_,.cls dat,slt⟩=>(match dat.mro,slt.toList with
  | .ref C'::up,[_,_,_,_,some (.builtin n),_]=>C' == C && n == newId && !dat.hasDel && W.tailIn K bmB up && W.nsOkIn K dat.ns && W.nsIn K dat.ns "__init__" == some z
  | _,_=>false)
 | _=>false
theorem IF{K:W.Frag}{C:Addr}{z:Option Value}(q0:Br K C z [.type "ValueError",.type "Exception",.type "BaseException",.type "object"] "ValueError.__new__"=true) :
  ∃ c:Mr,K.lookup C=some (excClassObj c.nm c.q C c.N c.bs c.bm c.hdct c.sn c.sub c.ab c.col c.dd c.k0 c.k1 c.k2 c.k3 c.k5 "ValueError.__new__")/\W.tailIn K [.type "ValueError",.type "Exception",.type "BaseException",.type "object"] c.bm=true/\W.nsOkIn K c.N=true/\W.nsIn K c.N "__init__"=some z:=by
 unfold Br at q0;split at q0
 ·rename_i dd0 cdat slots0 look0;split at q0
  ·rename_i Cx0 tl0 g0 g1 g2 g3 nw g5 em es0
   simp only [PC,Ou,Bool.not_eq_true'] at q0<;>skip
   obtain⟨⟨⟨⟨⟨rfl,rfl⟩,ndel⟩,tok⟩,nok⟩,noi⟩:=q0;obtain⟨c1,c2,c3,c4,c5,c6,c7,c8,c9,c10,c11⟩:=cdat;dsimp only at em ndel nok noi;subst em ndel;obtain⟨lst0⟩:=slots0;have es1:lst0=[g0,g1,g2,g3,some (.builtin "ValueError.__new__"),g5]:=es0;subst es1;exact⟨⟨c1,c5,c4,c2,tl0,c6,c7,c8,c9,c10,dd0,g0,g1,g2,g3,g5⟩,look0,tok,nok,noi⟩
  ·cases q0
 ·cases q0
structure Mp(K:W.Frag)(C:Addr):Prop where
 ex:W.excIn K C [.type "ValueError",.type "Exception",.type "BaseException",.type "object"] "ValueError.__new__"=true
def Bd(C:Addr)(E:St->XK)(t:TA):TS:=λ _ σ H=>t σ H λ vs H1=>vs.length<=sizeLine/\E σ (.ref C) none H1
theorem qZ{C:Addr}{x:Str}{e₀:Expr}{rest:List Expr}{np cpos pos:Pos}{t:TA}{E:St->XK}(hc:X.calm=true)(hg:Gl X x)(hmg:X.mg x=some (.ref C))(O:Mp X.K C)(hx:∀ σ,rR X (E σ) σ)(ha:PA X (e₀::rest) t)
  (he:starEach (e₀::rest) X.env=(false,eval e₀ X.env)::starEach rest X.env:=by rfl) (hplain:(backTo cpos (starEach rest X.env)).any (·.1)=false:=by rfl) (hdb:(x == ("__debug__":Str))=false:=by decide) :
  PS X (.Raise (some (.Call (.Name x np) (e₀::rest) [] cpos)) none pos) (Bd C E t):=by
 intro pins s σ H D I h;obtain⟨c,look0,tok,nok,noi⟩:=IF (z:=none) O.ex;have nsb:X.base.Ns c.N (X.base.nsMap c.N):=.of_isNs (W.isNs_of_in I.mod.kin nok)
 refine PySem.wpAny_Raise_call_subU (C:=C) (nm:=c.nm) (q:=c.q) (N:=c.N) (bs:=c.bs) (bm:=c.bm) (hdct:=c.hdct) (sn:=c.sn) (sub:=c.sub) (ab:=c.ab) (col:=c.col) (dd:=c.dd) (k0:=c.k0) (k1:=c.k1) (k2:=c.k2) (k3:=c.k3) (k5:=c.k5)
  PySem.F.excBase_ValueError (by decide +kernel) PySem.F.excBase_ValueError (mN:=X.base.nsMap c.N) ((W.tail_of_in I.kIn tok).hasType (by decide +kernel)) (I.ok.hd hc) (by rw [he];exact(Bool.false_or _).trans hplain) (W.nsMap_none_of_in I.mod.kin nok noi) (gD I hg hmg ⟨rfl,?_⟩ hdb)
 have hh:=ha cpos pins s σ H _ I h;rw [he] at hh ⊢;exact Pr (thn hh λ us s2 ⟨vs,H2,I2,r,hl,hE⟩=>⟨rfl,by rw [←r.length];exact hl,I2.kIn _ _ look0,nsb.keeps I2.bk,W.tail_of_in I2.kIn tok,λ h' e hm=>hx σ pins H2 s2 h' e C us I2 hm hE⟩)
abbrev Cx.mark(X:Cx)(e:Addr):Cx:={ X with A:=X.A.mark (some (.ref e)),calm:=false,xe:=λ _ _=>False }
theorem Inv.mark{pins:List (Addr × Obj)}{σ:St}{H:Hp}{s:Shared}(I:Inv X pins σ H s)(e:Addr):Inv (X.mark e) pins σ H s:=
 ⟨⟨I.ok.mod,I.ok.kind,I.ok.glob,I.ok.blt,I.ok.above,I.ok.inj,I.ok.has,I.ok.cab,(λ z=>by cases z),I.ok.frames,I.ok.stk,I.ok.exf,I.ok.bs,I.ok.bsz,I.ok.noex,I.ok.exfs,I.ok.funs,I.ok.frf⟩,I.os,I.bare,I.base,I.loc,I.cell,I.free,I.freeC,I.pin,I.hok,I.len⟩
theorem Inv.unmark{pins:List (Addr × Obj)}{σ:St}{H:Hp}{s:Shared}{e:Addr}(ok:X.Ok)(I:Inv (X.mark e) pins σ H s):Inv X pins σ H s:=
 ⟨ok,I.os,I.bare,I.base,I.loc,I.cell,I.free,I.freeC,I.pin,I.hok,I.len⟩
end
structure Fb(K:W.Frag)(x qual:Str)(st:Stmt)(f:Addr)(fd:FuncData):Prop where
 ex:∃ (oc:Value) (od:Option Addr) (dV kV doc pm:Value) (an:Option Addr) (cdv ct:Value) (osl:Array (Option Value)),
  fd=W.fnOf x qual (dC st) (cD st) (aa st) dV kV doc pm an cdv ct/\K.lookup f=some ⟨oc,od,.func fd,osl⟩/\W.codeIn K cdv qual=true
 kp:W.keepIn K (.ref f)=true
section
variable {P:Program}{w:World}{K:PySem.W.Frag}{mg:Str->Option Value}{base:Heap}
theorem Fb.ok{CX:CXT}{x qual:Str}{st:Stmt}{f:Addr}{fd:FuncData}{N ps:List Str}{k:Nat}{sp:Sp}(F:Fb K x qual st f fd)(S:ak N ps (aa st))(len:∀ vs H Q E,sp vs H Q E->vs.length=ps.length)
  (hbody:∀ (cdv:Value) (A:Around) (outer:List Env) (s:Shared) (H:Hp) (vs:List V) (Q:VK) (E:XK),g7 k (A.deeper (envOfC qual (aa st) s.heap.objs.size f cdv))->sp vs H Q E →
   ∃ t,PSs (yp CX P w K mg base N qual (aa st) f cdv A outer s H E) (cD st) t/\t { nx:=λ _ H'=>Q .non H',rt:=Q } (aE N vs) H):bj P w K mg base CX (k+1) f fd ps sp:=by
 obtain⟨oc,od,dV,kV,doc,pm,an,cdv,ct,osl,rfl,lk,hcd⟩:=F.ex;exact FP lk hcd S len λ A outer s H vs Q E hr hsp=>hbody cdv A outer s H vs Q E hr hsp
theorem EB{x qual:Str}{st:Stmt}{f:Addr}{oc:Value}{od an:Option Addr}{osl:Array (Option Value)}{dV kV doc pm cdv ct:Value}(l:K.lookup f=some ⟨oc,od,.func (W.fnOf x qual (dC st) (cD st) (aa st) dV kV doc pm an cdv ct),osl⟩)
  (c:W.codeIn K cdv qual=true) (k:W.keepIn K (.ref f)=true):Fb K x qual st f (W.fnOf x qual (dC st) (cD st) (aa st) dV kV doc pm an cdv ct):=⟨⟨oc,od,dV,kV,doc,pm,an,cdv,ct,osl,rfl,l,c⟩,k⟩
end
open PySem.W
structure uv(K:W.Frag)(C:Addr):Prop where
 ga:W.findIn K (.ref C) "__getattribute__"=some (some (.builtin "BaseException.__getattribute__"))
 no:W.findIn K (.ref C) "__getattr__"=some none
 mb:W.mroIn K C (.type "BaseException")=some true
 mo:W.mroIn K C (.type "object")=some true
 cl:W.findIn K (.ref C) "__class__"=some (some (.builtin "object.__class__"))
 sp:W.specialIn K (.builtin "object.__class__") "__get__"=some (some (.builtin "getset_descriptor.__get__"))
 tk:W.takesIn K (.builtin "object.__class__")=some true
 hd:W.hasDictIn K C=true
section
variable {prog:Program}{w:World}{A:Around}{E:Value->Shared->Prop}{s:Shared}{K:PySem.W.Frag}{x C:Addr}{ox:Obj}{od:Option Obj}{name:Str}
theorem xJ{M:Model}{nameV:Value}{Q:Unit->Shared->Prop}(c:uv K C)(X:K.In s.heap)(I:InstAt s.heap x ox C od)(hq:Q () s):wpAny M A (checkBuiltinCall "BaseException.__getattribute__" ⟨[.ref x,nameV],[]⟩) Q E s:=by
 have hk:builtinKind "BaseException.__getattribute__"=some .slot:=by decide +kernel
 have hsplit:splitId "BaseException.__getattribute__"=some ("BaseException", "__getattribute__"):=by decide +kernel
 have ha:=F.args_bexc_ga (.ref x) nameV;have L0:=I.type (M:=M);have L1:=looks_mroIn (M:=M) X c.mb;obtain⟨hh,g,d,t,os⟩:=s;simp only [checkBuiltinCall,hk,hsplit];have LI:Looks M hh (isInstance (.ref x) (.type "BaseException")) true:=L0.andThen L1;refine My (LI.at ?_)
 first|exact hq|exact MM hq|(simp only [Bool.not_true,Bool.false_eq_true,if_false];exact hq)
def LV(M:Model)(A:Around)(P:Value->Shared->Prop)(fin:PySem.Fin)(s:Shared):Prop:=match fin with
 | .done (.ret v)=>P v s
 | .again c=>c.quiet=true/\codeAny M A c (λ r s'=>match r with | .ok (.ret v)=>P v s'|_=>False) s
 | _=>False
theorem AF{Q:Option Value->Shared->Prop}(c:uv K C)(X:K.In s.heap)(I:InstAt s.heap x ox C od)
  (h:∀ A':Around,wpAny (model prog w) A' (Builtin.«object.__getattribute__» ⟨[.ref x,.str name s.toks],[]⟩) (LV (model prog w) A λ v s'=>wpAny (model prog w) A (handedOut v) (λ v s''=>Q (some v) s'') (λ _ _=>False) s') (λ _ _=>False) { s with toks:=s.toks+1 }) :
  wpAny (model prog w) A (getAttr? (.ref x) name) Q E s:=by
 obtain⟨hh,g,d,t,os⟩:=s;have L0:=I.type (M:=model prog w);have L1:=looks_findIn (M:=model prog w) X c.ga;have L2:=looks_findIn (M:=model prog w) X c.no;unfold getAttr? getAttrBy? getAttrBy;refine wpAny_bind (wpAny_mkText (wpAny_bind (wpAny_attempt (wpAny_holding (wpAny_bind (L0.at (wpAny_bind (L1.at ?_))))))))
 show wpAny _ _ (getAttrByItsOwn _ _ _ _ _ _) _ _ _
 unfold getAttrByItsOwn
 show wpAny _ _ (do let before ←typeLookup (.ref C) "__getattr__";_) _ _ _
 refine wpAny_bind (L2.at (wpAny_bind (wpAny_attempt (wpAny_holding ?_))));unfold callGetattribute;rw [if_neg (by simp)];unfold boundAndCalled;rw [F.attr_ValueError.ga.bind (.ref x)];refine wpAny_bind (wpAny_pure (wpAny_call (codeAny_call_builtin F.attr_ValueError.ga.plain F.entry_bexc_ga (xJ c X I ?_))));have fin1:∀ v s',wpAny (model prog w) A (handedOut v) (λ v s''=>Q (some v) s'') (λ _ _=>False) s'->wpAny (model prog w) A (handedOut v) (λ a s'=>wpAny (model prog w) A (pure (some a)) Q E s') (λ e s'=>wpAny (model prog w) A (do if ←isInstance e (.type "AttributeError") then pure none else throw e) Q E s') s':=λ v s' z=>wpAny_mono z (λ _ _ q=>wpAny_pure q) λ _ _ q=>q.elim;refine wpAny_mono (h _) (λ fin s' z=>?_) λ _ _ z=>z.elim
 cases fin with
 | done f=>cases f with
  | ret v=>exact fin1 v s' z
  | _=>exact z.elim
 | again c'=>
  obtain⟨z1,z2⟩:=z;refine⟨z1,N6 z2 λ r s'' q=>?_⟩
  cases r with
  | error e=>exact q.elim
  | ok f=>cases f with
   | ret v=>exact fin1 v s'' q
   | _=>exact q.elim
theorem mf{a g:Value}(hc:(clsIn K C).isSome=true)(ha:findIn K (.ref C) name=some (some a))(hg:specialIn K a "__get__"=some (some g))(ht:takesIn K a=some true):findObj K C od name=some (.bind g a):=by
 obtain⟨cd,hc⟩:=Option.isSome_iff_exists.mp hc;unfold findObj;rw [hc,Option.bind_some,ha,Option.bind_some];simp [hg,ht]
theorem uv.some(c:uv K C):(clsIn K C).isSome=true:=by
 obtain⟨cd,hc,_⟩:=any_some c.hd;rw [hc];rfl
theorem xI{Q:Option Value->Shared->Prop}(c:uv K C)(X:K.In s.heap)(I:InstAt s.heap x ox C od)(hq:Q (some (.ref C)) { s with toks:=s.toks+1 }):wpAny (model prog w) A (getAttr? (.ref x) "__class__") Q E s:=by
 have hf:findObj K C od "__class__"=some (.bind (.builtin "getset_descriptor.__get__") (.builtin "object.__class__")):=mf c.some c.cl c.sp c.tk;refine AF c X I λ A'=>?_;have L0:=I.type (M:=model prog w);have L1:=looks_find (M:=model prog w) X I hf;have cg:∀ {A:Around} {R:Result->Shared->Prop},R (.ok (.ret (.ref C))) { s with toks:=s.toks+1 }->codeAny (model prog w) A (.call (.builtin "getset_descriptor.__get__") ⟨[.builtin "object.__class__",.ref x,.ref C],[]⟩) R { s with toks:=s.toks+1 }:=λ h=>class_get (s:={ s with toks:=s.toks+1 }) (ox:=ox) (od:=od) X I c.mo h;obtain⟨hh,gg,d,t,os⟩:=s;refine My (MM (My (MM (My (L0.at (My (L1.at ?_)))))))
 show wpAny _ _ (do ret (←holding [.builtin "object.__class__"] (call (.builtin "getset_descriptor.__get__") [.builtin "object.__class__",.ref x,.ref C]))) _ _ _
 exact My (Ob (wpAny_call (cg (MM (show LV _ _ _ (.done (.ret (.ref C))) _ from handed_on rfl hq)))))
theorem rk(c:uv K C):KitX K (.ref x) (.ref C) (λ h=>InstAt h x ox C od) where
 ty:=λ _ _ _ I=>I.type
 it:=λ _ _ X _=>by
  obtain⟨cdD,hcD,_⟩:=any_some c.hd;unfold clsIn at hcD;split at hcD
  ·rename_i c' d' cd' sl' ho;intro A' Q' E' s' k q;unfold isType loadHead;exact wpAny_bind (wpAny_loadPart (k _ _ (X _ _ ho)) (wpAny_pure q))
  ·cases hcD
 ne:=λ h tp dd its n sl X htp=>by
  obtain⟨cdD,hcD,_⟩:=any_some c.hd;refine Bool.eq_false_iff.mpr λ q=>?_;have e:C=tp:=Value.ref.inj (beq_iff_eq.mp q);subst e;unfold clsIn at hcD;split at hcD
  ·rename_i c' d' cd' sl' ho;have z:=(X _ _ ho).symm.trans htp;cases z
  ·cases hcD
 ca:=λ X I k=>xI c X I k
end
def qo(oe:Obj):HO:=.frz oe (.ext λ _=>True)
structure sI(X:Cx)(pins:List (Addr × Obj))(e:Addr):Prop where
 s0:X.s₀.heap.get? e=none
 loc:e ≠ X.env.locals
 cel:∀ x c,X.env.cells.lookup x=some c->c ≠ e
 fs:e ∉ X.fs
 pin:∀ p∈X.pn++pins,p.1 ≠ e
section
variable {X:Cx}
theorem sI.of{pins:List (Addr × Obj)}{σ:St}{H:Hp}{s:Shared}{e:Addr}(I:Inv X pins σ H s)(hx:X.ex=[])(h:s.heap.get? e=none):sI X pins e where
 s0:=by
  cases q:X.s₀.heap.get? e with
  | none=>rfl
  | some o=>
   obtain⟨o',z⟩:=I.base.there e o q (by rw [hx];simp);rw [h] at z;cases z
 loc:=λ z=>by
  obtain⟨m,⟨o,_,_,q,_⟩,_⟩:=I.loc;rw [←z,h] at q;cases q
 cel:=λ x c q z=>by
  obtain⟨v,o,r,_⟩:=I.cell x c q;rw [z,h] at r;cases r
 fs:=λ z=>by
  obtain⟨_,o,q,_⟩:=I.funs.mem z;rw [h] at q;cases q
 pin:=λ p hp z=>by
  have q:=(I.pin p hp).1;rw [z,h] at q;cases q
theorem Inv.track{pins:List (Addr × Obj)}{σ:St}{H:Hp}{s:Shared}{e:Addr}{oe:Obj}(I:Inv X pins σ H s)(N:sI X pins e)(he:s.heap.get? e=some oe)(hn:H e=none):Inv X pins σ (upd H e (qo oe)) s:=by
 have ne:∀ {b:Addr} {o:HO},H b=some o->b ≠ e:=λ q z=>by rw [z,hn] at q;cases q
 refine⟨I.ok,I.os,I.bare,⟨I.base.keep,I.base.slot,λ b o q n hx=>?_,I.base.there,λ b xs q=>?_,λ b o u q=>?_,λ b ps q=>?_⟩,I.loc,I.cell,?_,λ x c q=>?_,λ p hp=>?_,λ b o q=>?_,I.len⟩
 ·rw [ai (λ z=>by rw [z,N.s0] at q;cases q)];exact I.base.free b o q n hx
 ·have z:=I.base.tups b xs q;rw [ai (ne z)];exact z
 ·have z:=I.base.frzs b o u q;rw [ai (ne z)];exact z
 ·obtain⟨m,z⟩:=I.base.tbls b ps q;exact⟨m,by rw [ai (ne z)];exact z⟩
 ·rw [ai (Nd N.loc)];exact I.free
 ·rw [ai (N.cel x c q)];exact I.freeC x c q
 ·obtain⟨a,b,c,d,f⟩:=I.pin p hp;exact⟨a,by rw [ai (N.pin p hp)];exact b,c,d,f⟩
 ·by_cases hb:b=e
  ·subst hb;rw [aj] at q;cases q;exact⟨he,trivial,⟨oe,he⟩,λ _ _ _ _=>trivial⟩
  ·rw [ai hb] at q;exact(I.hok b o q).stay (λ _ _ _ r=>r) (λ c r=>by rw [ai (ne r)];exact r) λ c xs r=>by rw [ai (ne r)];exact r
def PHs(X:Cx)(hs:List ExceptHandler)(th:Value->Option Addr->TS):Prop:=
 ∀ (pins:List (Addr × Obj)) (s:Shared) (σ:St) (H:Hp) (D:gd) (e T:Addr) (cls:Value) (d:Option Addr),Inv X pins σ H s->sI X pins e->H e=none->my s.heap e cls d T->th cls d D σ H->wpAny (model X.prog X.w) X.A (handleBy (.ref e) X.env hs) (SP X pins D) X.xe s
theorem ED{M:Model}{A:Around}{E:Value->Shared->Prop}{s:Shared}{e T:Addr}{cls:Value}{d:Option Addr}{Q:Unit->Shared->Prop}(x:my s.heap e cls d T)(hQ:∀ h',(∀ b o,s.heap.get? b=some o->h'.get? b=some o)->Q () { s with heap:=h' }) :
  wpAny M A (setFlight (.ref e) none) Q E s:=by
 obtain⟨oe,vs,oT,ts,he,rfl,rfl,hd,h1,ne,hT,hdT,h3,h2c⟩:=x;unfold setFlight;refine wpAny_bind (wpAny_field he hd h1 ?_);rw [if_pos (show (Value.ref T != Value.none)=true from by simp)];refine wpAny_setField hT hdT (Array.getElem?_eq_some_iff.mp h3).1 (hQ _ λ b o q=>?_)
 by_cases hb:b=T
 ·subst hb;rw [hT] at q;cases q
  have same:Obj.mapFields (·.setIfInBounds 3 ((none:Option Addr).elim Value.none λ f=>rawInt f)) oT=oT:=by
   obtain⟨c,d,dat,sl⟩:=oT;cases hdT
   have e3:ts.setIfInBounds 3 ((none:Option Addr).elim Value.none λ f=>rawInt f)=ts:=by
    apply Array.ext_getElem?;intro i
    by_cases hi:i=3
    ·subst hi;obtain⟨hlt,hv⟩:=Nl.mp h3;simp [Array.getElem?_setIfInBounds,hlt,hv]
    ·rw [Pt (Nd hi)]
   show (⟨c,d,.fields (ts.setIfInBounds 3 ((none:Option Addr).elim Value.none λ f=>rawInt f)),sl⟩:Obj)=_
   rw [e3]
  have:=NN (Obj.mapFields (·.setIfInBounds 3 ((none:Option Addr).elim Value.none λ f=>rawInt f))) hT (NM (NZ hdT _));rw [same] at this;exact this
 ·rw [NW _ _ (Nd hb)];exact q
def JW:Value->Option Addr->TS:=λ _ _ _ _ _=>False
theorem CJ:PHs X [] JW:=λ _ _ _ _ _ _ _ _ _ _ _ _ _ h=>h.elim
theorem SP.unmark{pins:List (Addr × Obj)}{D:gd}{f:Flow}{s2:Shared}{e:Addr}(ok:X.Ok)(q:SP (X.mark e) pins D f s2):SP X pins D f s2:=by
 cases f with
 | next=>obtain⟨σ',H',J,q⟩:=q;exact⟨σ',H',J.unmark ok,q⟩
 | brk=>obtain⟨σ',H',J,q⟩:=q;exact⟨σ',H',J.unmark ok,q⟩
 | cont=>obtain⟨σ',H',J,q⟩:=q;exact⟨σ',H',J.unmark ok,q⟩
 | ret u=>obtain⟨v,σ',H',J,r,q⟩:=q;exact⟨v,σ',H',J.unmark ok,r,q⟩
theorem IB{M:Model}{h:Heap}{e T:Addr}{cls:Value}{d:Option Addr}(ex:my h e cls d T):W.Looks M h (typeOf (.ref e)) cls:=by
 obtain⟨oe,vs,oT,ts,he,rfl,_⟩:=ex;exact(W.Looks.ld he).andThen .now
def Mm(i:Nat):St->Hp->(St->Hp->Prop)->Prop:=λ σ H Q=>Q (σ.set i none) H
def EU(i:Nat)(nx:St->Hp->Prop):St->Hp->Prop:=λ σ H=>Mm i σ H nx
def gd.del(i:Nat)(D:gd):gd:=⟨EU i D.nx,D.rt,EU i D.bk,EU i D.ct⟩
theorem kI{M:Model}{A:Around}{E:Value->Shared->Prop}{pins:List (Addr × Obj)}{σ:St}{H:Hp}{s:Shared}{i:Nat}{x:Str}{pos:Pos}{Q:Unit->Shared->Prop}(I:Inv X pins σ H s)(hi:X.N[i]? = some x)(hk:X.env.scope.names.lookup x=some .local)(hN:X.N.Nodup)
  (h:∀ s',Inv X pins (σ.set i none) H s'->Q () s'):wpAny M A (do bindName X.env x .none;unbindBehindTheSuite X.env x pos) Q E s:=by
 obtain⟨m,hn,hl⟩:=id I.loc;have hcls:(X.env.scope.kind == .class || (X.env.scope.kind == .module && X.env.locals != X.env.globals))=false:=by rw [I.ok.kind];rfl
 have cne:=I.cne;refine PySem.wpAny_nameGoes_keeps hk hn hcls λ h' v hn' hs=>?_;obtain⟨oL,_,_,hoL,_⟩:=id hn;refine h _ ⟨I.ok,I.os,I.bare,⟨λ b o e n hb hx=>?_,λ b o e n hb hx=>?_,I.base.free,λ b o e hx=>?_,I.base.tups,I.base.frzs,I.base.tbls⟩,⟨_,hn',λ j y v' e1 e2 e3=>?_⟩,λ y c e=>?_,I.free,I.freeC,λ p hp=>?_,λ b ob e=>?_,by simpa using I.len⟩
 ·exact(hs.2 b (MS (MN (MJ e) I.ok.above))).trans (I.base.keep b o e n hb hx)
 ·obtain⟨sl,e1⟩:=I.base.slot b o e n hb hx;exact⟨sl,(hs.2 b (MS (MN (MJ e) I.ok.above))).trans e1⟩
 ·obtain⟨o',e1⟩:=I.base.there b o e hx;exact⟨o',(hs.2 b (MS (MN (MJ e) I.ok.above))).trans e1⟩
 ·have hj:j ≠ i:=by
   rintro rfl
   by_cases hlt:j < σ.length
   ·rw [O3 hlt] at e2;cases e2
   ·rw [NR (by simpa using O0 hlt)] at e2;cases e2
  rw [Pg (Nd hj)] at e2;obtain⟨u',r',q⟩:=hl j y v' e1 e2 e3;refine⟨u',r',?_⟩
  rcases q with ⟨k,e⟩|⟨k,c,e,z⟩
  ·refine .inl ⟨k,?_⟩;have:y ≠ x:=λ e=>hj (ll hN e1 (e ▸ hi));simp [this,e]
  ·exact .inr ⟨k,c,e,z.sameBut hs (cne y c e)⟩
 ·obtain⟨w',z⟩:=I.cell y c e;exact⟨w',z.sameBut hs (cne y c e)⟩
 ·obtain⟨e,n,ne,nf,d⟩:=I.pin p hp;exact⟨(hs.2 p.1 ne).trans e,n,ne,nf,d⟩
 ·refine(I.hok b ob e).stay (λ c w' hc q=>(hs.2 c ?_).trans q) (λ _ q=>q) λ _ _ q=>q;rintro rfl
  rcases hc with rfl|hc
  ·rw [I.free] at e;cases e
  ·rw [I.free] at hc;cases hc
def Be(K:W.Frag)(C:Value)(i:Nat)(tb:TS)(tr:Value->Option Addr->TS):Value->Option Addr->TS:=λ cls d D σ H=>∃ b,W.exmOne K cls C=some b /\
 if b=true then ∀ (e:Addr) (oe:Obj),H e=none->oe.cls=cls->oe.dict=d->(∃ vs,oe.data=.fields vs)->tb (D.del i) (σ.set i (some (.ref e))) (upd H e (qo oe)) else tr cls d D σ H
theorem Gp{x n:Str}{i:Nat}{np pos:Pos}{b₀:Stmt}{body:List Stmt}{rest:List ExceptHandler}{C:Value}{tb:TS}{tr:Value->Option Addr->TS}(hN:X.N.Nodup)(hi:X.N[i]? = some n)(hk:X.env.scope.names.lookup n=some .local)(hg:Gl X x)(hm:X.mg x=some C\/(X.mg x=none/\bootBuiltins x=some C/\x ≠ "__name__"))(hb:∀ e,PSs (X.mark e) (b₀::body) tb)(hr:PHs X rest tr)
  (hdb:(x == ("__debug__":Str))=false:=by decide):PHs X (.ExceptHandler (some (.Name x np)) (some n) (b₀::body) pos::rest) (Be X.K C i tb tr):=by
 intro pins s σ H D e T cls d I N hn ex h;obtain⟨b,hx,h⟩:=h;have Im:=I.mark e
 have ld:∀ {Q:Value->Shared->Prop} {E:Value->Shared->Prop},Q C s->wpAny (model X.prog X.w) (X.A.mark (some (.ref e))) (eval (.Name x np) X.env) Q E s:=λ {Q E} q=>by
  rcases hm with z|⟨z1,z2,z3⟩
  ·exact gD (X:=X.mark e) Im hg z q hdb
  ·exact gj (X:=X.mark e) Im hg z1 z2 q z3 hdb
 refine PySem.wpAny_handleBy_cons (PySem.codeAny_handlers_test (ld ((W.exm_one I.kIn (IB ex) hx).here ?_))) (by intro q;cases q)
 cases b with
 | false=>
  rw [MH MQ] at h;exact hr pins s σ H D e T cls d I N hn ex h
 | true=>
  rw [MI rfl] at h;refine PySem.codeAny_handlers_suite_as (ED ex λ h' kp=>?_);obtain⟨oe,vs,oT,ts,he,hc,hd,hdat,_⟩:=ex;have N':sI (X.mark e) pins e:=⟨N.s0,N.loc,N.cel,N.fs,N.pin⟩;have I':Inv (X.mark e) pins σ (upd H e (qo oe)) { s with heap:=h' }:=(Im.kept (t':=s.toks) kp).track N' (kp _ _ he) hn;refine gk (X:=X.mark e) I' hN hi (.inl hk) (show bF (.ref e) (.ref e) from rfl) (λ s1 I1=>?_) (.inr hk);refine Oq (hb e pins s1 _ _ (D.del i) I1 (h e oe hn hc hd ⟨vs,hdat⟩)) (λ f s2 q=>?_) λ _ _ z=>z.elim
  show wpAny _ X.A _ _ _ s2
  have q':=SP.unmark I.ok q
  cases f with
  | next=>obtain⟨σ',H',J,q⟩:=q';exact kI J hi hk hN λ s3 J3=>⟨_,H',J3,q⟩
  | brk=>obtain⟨σ',H',J,q⟩:=q';exact kI J hi hk hN λ s3 J3=>⟨_,H',J3,q⟩
  | cont=>obtain⟨σ',H',J,q⟩:=q';exact kI J hi hk hN λ s3 J3=>⟨_,H',J3,q⟩
  | ret u=>obtain⟨v,σ',H',J,r,q⟩:=q';exact kI J hi hk hN λ s3 J3=>⟨v,_,H',J3,r,q⟩
def K2(tb:(St->XK)->TS)(th:Value->Option Addr->TS):TS:=λ D σ H=>tb (λ σ' cls d H'=>th cls d D σ' H') D σ H
abbrev Cx.tried(X:Cx)(E:Value->Shared->Prop)(pn:List (Addr × Obj)):Cx:={ X with xe:=E,pn:=pn }
theorem Gh{body:List Stmt}{h₀:ExceptHandler}{hs:List ExceptHandler}{pos:Pos}{tb:(St->XK)->TS}{th:Value->Option Addr->TS}(hstk:X.stack=X.env::X.outer/\X.env.frame=some X.env.locals/\X.ex=[])
  (hb:∀ (EX:St->XK) (E:Value->Shared->Prop) (pn:List (Addr × Obj)),(∀ σ,BG (CX1 X.prog X.w) (X.tried E pn) (EX σ) σ)->PSs (X.tried E pn) body (tb EX)) (hh:PHs X (h₀::hs) th) :
  PS X (.Try body (h₀::hs) [] [] pos) (K2 tb th):=by
 intro pins s σ H D I h;refine PySem.wpAny_Try_except ?_;have okT:∀ E pn,(X.tried E pn).Ok:=λ E pn=>⟨I.ok.mod,I.ok.kind,I.ok.glob,I.ok.blt,I.ok.above,I.ok.inj,I.ok.has,I.ok.cab,I.ok.hd,I.ok.frames,I.ok.stk,I.ok.exf,I.ok.bs,I.ok.bsz,I.ok.noex,I.ok.exfs,I.ok.funs,I.ok.frf⟩
 have back:∀ {E:Value->Shared->Prop} {pins':List (Addr × Obj)} {σ':St} {H':Hp} {s':Shared},Inv (X.tried E (X.pn++pins)) pins' σ' H' s'->Inv X pins σ' H' s':=λ {E pins' σ' H' s'} J=>
  ⟨I.ok,J.os,J.bare,J.base,J.loc,J.cell,J.free,J.freeC,λ p hp=>J.pin p (NQ _ hp),J.hok,J.len⟩
 have I0:∀ E,Inv (X.tried E (X.pn++pins)) [] σ H s:=λ E=>⟨okT E _,I.os,I.bare,I.base,I.loc,I.cell,I.free,I.freeC,λ p hp=>I.pin p (by simpa using hp),I.hok,I.len⟩;refine thn (hb (λ σ' cls d H'=>th cls d D σ' H') _ (X.pn++pins) ?_ [] s σ H D (I0 _) h) λ f s1 q=>?_
 ·intro σ1 pins1 H1 s1 ev s2 I1 hc;obtain⟨e,T,cls,dd,H',rfl,os,bare,un1,hok,ne,nT,He,HT,ex,hxd,hE⟩:=hc;have I2:=I1.call' (ch:=[]) os un1 hok bare (λ b z=>absurd z (by simp))
  have nf:∀ b,s1.heap.get? b=none->b ∉ frs (X.env::X.outer):=λ b hb z=>by
   have st:=I1.stack;have st':s1.heap.FunFrames X.base (X.env::X.outer):=by rw [←hstk.1];exact st
   obtain⟨_,o,q,_⟩:=st'.mem z;rw [hb] at q;cases q
  have nb:X.base.get? T=none:=by
   cases q:X.base.get? T with
   | none=>rfl
   | some o=>
    have:=I1.bk T o q;rw [nT] at this;cases this
  have fl:s2.heap.FunFrames X.base (X.env::X.outer):=by rw [←hstk.1];exact I2.stack
  have fr:X.A.frames=some (X.env::X.outer):=by rw [←hstk.1];exact I.ok.frames
  refine mT (base:=X.base) (outer:=X.outer) fr fl hstk.2.1 ex (nf e ne) (nf T nT) nb λ g T' ng nT' ex'=>?_;have fs:∀ b∈frs (X.env::X.outer),b∈frs X.stack:=λ b hb=>by rw [hstk.1];exact hb
  have I3:=I1.call' (s':={ s2 with heap:=g }) (ch:=[]) os (un1.noted ng ne (λ b z=>by rw [z];exact nT) λ b hb=>.inl (fs b hb)) (hok.noted ng He (λ b z=>by rw [z];exact HT) λ b hb=>I2.stkFree b (fs b hb)) bare (λ b z=>absurd z (by simp));exact hh pins _ σ1 H' D e T' cls dd (back I3) (sI.of (back I1) hstk.2.2 ne) He ex' hE
 ·cases f with
  | next=>obtain⟨σ',H',J,q⟩:=q;exact OS ⟨σ',H',back J,q⟩
  | brk=>obtain⟨σ',H',J,q⟩:=q;exact⟨σ',H',back J,q⟩
  | cont=>obtain⟨σ',H',J,q⟩:=q;exact⟨σ',H',back J,q⟩
  | ret u=>obtain⟨v,σ',H',J,r,q⟩:=q;exact⟨v,σ',H',back J,r,q⟩
def kXd:HO->Prop:=λ o=>match o with
 | .xd _=>True
 | _=>False
def yL(H:Hp):Option Addr->Prop
 | none=>True
 | some dx=>∃ o,H dx=some o/\kXd o
theorem xW:bD X (.builtin "isinstance") (λ xs H Q=>∃ e oe C D b,xs=[.ref e,D]/\(∃ u,H e=some (.frz oe u))/\oe.cls=.ref C/\yL H oe.dict/\(∃ vs,oe.data=.fields vs)/\uv X.K C/\(∃ u,bF D u/\W.kitOne X.K (.ref C) u=some b)/\Q (.bl b) H):=by
 intro pins s σ H xs us Q I r h;obtain⟨e,oe,C,D,b,rfl,⟨uu,hH⟩,hc,hd,⟨vs,hv⟩,ec,⟨u,ru,hk⟩,q⟩:=h;obtain⟨u1,u2,rfl,r1,r2⟩:=yx r;cases (show u1=Value.ref e from r1)
 have hu:u2=u:=by
  cases D with
  | ref a=>exact(show u2=Value.ref a from r2).trans (show u=Value.ref a from ru).symm
  | ty n=>exact(show u2=Value.type n from r2).trans (show u=Value.type n from ru).symm
  | non=>exact(show u2=Value.none from r2).trans (show u=Value.none from ru).symm
  | bl b'=>exact(show u2=Value.bool b' from r2).trans (show u=Value.bool b' from ru).symm
  | int i=>obtain⟨t,rfl⟩:=ru;simp [W.kitOne,W.kitCls] at hk
  | str i=>obtain⟨t,rfl⟩:=ru;simp [W.kitOne,W.kitCls] at hk
  | byt i=>obtain⟨t,rfl⟩:=ru;simp [W.kitOne,W.kitCls] at hk
  | flt i=>obtain⟨t,rfl⟩:=ru;simp [W.kitOne,W.kitCls] at hk
 subst hu;obtain⟨he,_⟩:=(show bK X.prog X.w H s.heap e (.frz oe uu) from I.hok e _ hH);have hno:W.notCls oe=true:=by unfold W.notCls;rw [hv]
 cases q0:oe.dict with
 | none=>
  have J:W.InstAt s.heap e oe C none:=⟨he,hc,hno,by rw [q0];trivial⟩;exact N7 (rk ec) I.kIn J hk (λ z=>nomatch z) λ tk=>⟨.bl b,H,I.tok _,rfl,q⟩
 | some dx=>
  rw [q0] at hd;obtain⟨o,ho,hx⟩:=hd
  cases o with
  | xd fs=>
   obtain⟨mA,hn,_⟩:=I.hok dx _ ho;obtain⟨oD,hoD,_⟩:=mW hn;have J:W.InstAt s.heap e oe C (some oD):=⟨he,hc,hno,by rw [q0];exact hoD⟩;exact N7 (rk ec) I.kIn J hk (λ z=>nomatch z) λ tk=>⟨.bl b,H,I.tok _,rfl,q⟩
  | _=>exact hx.elim
end
section
variable {prog:Program}{w:World}{A:Around}{R:Result->Shared->Prop}{h:Heap}{g:Array GenState}{d:Drawn}{t:Nat}{os:OsState}{K:Frag}
variable {nm q:Str}{C N fI:Addr}{bs bm bmB:List Value}{hdct:Bool}{sn:List Str}{sub:List Value}{ab:Bool}{col:Option Bool}{dd:Option Addr}{k0 k1 k2 k3 k5:Option Value}{B Bn newId nid initId inN:String}{bmN:List Value}
end
section
variable {prog:Program}{w:World}{A:Around}{E:Value->Shared->Prop}{K:Frag}{x C:Addr}{s:Shared}{name:Str}{v:Value}
end
section
variable {prog:Program}{w:World}{A:Around}{E:Value->Shared->Prop}{s:Shared}{K:PySem.W.Frag}{x C dx:Addr}{ox:Obj}{od:Option Obj}{name:Str}{mA:Str->Option Value}{u:Value}
end
section
variable {prog:Program}{w:World}{A:Around}{E:Value->Shared->Prop}{h:Heap}{g:Array GenState}{d:Drawn}{t:Nat}{os:OsState}{e a0:Addr}{dct:Option Addr}
variable {nm q:Str}{C N:Addr}{bs bm bmB:List Value}{hdct:Bool}{sn:List Str}{sub:List Value}{ab:Bool}{col:Option Bool}{dd:Option Addr}{k0 k1 k2 k3 k5:Option Value}{B newId nid initId:String}
end
section
variable {X:Cx}{pins:List (Addr × Obj)}{σ:St}{H:Hp}{s:Shared}
end
section
variable {X:Cx}{e o value:Expr}{ta tv:TE}{f:Str}{pos pos':Pos}
end
def del(H:Hp)(e:Addr):Hp:=λ b=>if b=e then none else H b
section
variable {X:Cx}
end
theorem EA{a:Option V}{v:V}{σ:St}{H:Hp}{Q:St->Hp->Prop}:cQ 0 v (a::σ) H Q=Q (some v::σ) H:=rfl
theorem Ez{a0:Option V}{a:Option V}{v:V}{σ:St}{H:Hp}{Q:St->Hp->Prop}:cQ 1 v (a0::a::σ) H Q=Q (a0::some v::σ) H:=rfl
theorem Ey{a0 a1:Option V}{a:Option V}{v:V}{σ:St}{H:Hp}{Q:St->Hp->Prop}:cQ 2 v (a0::a1::a::σ) H Q=Q (a0::a1::some v::σ) H:=rfl
theorem Ex{a0 a1 a2:Option V}{a:Option V}{v:V}{σ:St}{H:Hp}{Q:St->Hp->Prop}:cQ 3 v (a0::a1::a2::a::σ) H Q=Q (a0::a1::a2::some v::σ) H:=rfl
theorem Ew{a0 a1 a2 a3:Option V}{a:Option V}{v:V}{σ:St}{H:Hp}{Q:St->Hp->Prop}:cQ 4 v (a0::a1::a2::a3::a::σ) H Q=Q (a0::a1::a2::a3::some v::σ) H:=rfl
theorem Eu{a0 a1 a2 a3 a4:Option V}{a:Option V}{v:V}{σ:St}{H:Hp}{Q:St->Hp->Prop}:cQ 5 v (a0::a1::a2::a3::a4::a::σ) H Q=Q (a0::a1::a2::a3::a4::some v::σ) H:=rfl
theorem Et{a0 a1 a2 a3 a4 a5:Option V}{a:Option V}{v:V}{σ:St}{H:Hp}{Q:St->Hp->Prop}:cQ 6 v (a0::a1::a2::a3::a4::a5::a::σ) H Q=Q (a0::a1::a2::a3::a4::a5::some v::σ) H:=rfl
theorem Es{a0 a1 a2 a3 a4 a5 a6:Option V}{a:Option V}{v:V}{σ:St}{H:Hp}{Q:St->Hp->Prop}:cQ 7 v (a0::a1::a2::a3::a4::a5::a6::a::σ) H Q=Q (a0::a1::a2::a3::a4::a5::a6::some v::σ) H:=rfl
theorem Er{a0 a1 a2 a3 a4 a5 a6 a7:Option V}{a:Option V}{v:V}{σ:St}{H:Hp}{Q:St->Hp->Prop}:cQ 8 v (a0::a1::a2::a3::a4::a5::a6::a7::a::σ) H Q=Q (a0::a1::a2::a3::a4::a5::a6::a7::some v::σ) H:=rfl
theorem Ep{a0 a1 a2 a3 a4 a5 a6 a7 a8:Option V}{a:Option V}{v:V}{σ:St}{H:Hp}{Q:St->Hp->Prop}:cQ 9 v (a0::a1::a2::a3::a4::a5::a6::a7::a8::a::σ) H Q=Q (a0::a1::a2::a3::a4::a5::a6::a7::a8::some v::σ) H:=rfl
theorem AA{a0 a1 a2 a3 a4 a5 a6 a7 a8 a9:Option V}{a:Option V}{v:V}{σ:St}{H:Hp}{Q:St->Hp->Prop}:cQ 10 v (a0::a1::a2::a3::a4::a5::a6::a7::a8::a9::a::σ) H Q=Q (a0::a1::a2::a3::a4::a5::a6::a7::a8::a9::some v::σ) H:=rfl
theorem Az{a0 a1 a2 a3 a4 a5 a6 a7 a8 a9 a10:Option V}{a:Option V}{v:V}{σ:St}{H:Hp}{Q:St->Hp->Prop}:cQ 11 v (a0::a1::a2::a3::a4::a5::a6::a7::a8::a9::a10::a::σ) H Q=Q (a0::a1::a2::a3::a4::a5::a6::a7::a8::a9::a10::some v::σ) H:=rfl
theorem Ay{a0 a1 a2 a3 a4 a5 a6 a7 a8 a9 a10 a11:Option V}{a:Option V}{v:V}{σ:St}{H:Hp}{Q:St->Hp->Prop}:cQ 12 v (a0::a1::a2::a3::a4::a5::a6::a7::a8::a9::a10::a11::a::σ) H Q=Q (a0::a1::a2::a3::a4::a5::a6::a7::a8::a9::a10::a11::some v::σ) H:=rfl
theorem Aw{a0 a1 a2 a3 a4 a5 a6 a7 a8 a9 a10 a11 a12:Option V}{a:Option V}{v:V}{σ:St}{H:Hp}{Q:St->Hp->Prop}:cQ 13 v (a0::a1::a2::a3::a4::a5::a6::a7::a8::a9::a10::a11::a12::a::σ) H Q=Q (a0::a1::a2::a3::a4::a5::a6::a7::a8::a9::a10::a11::a12::some v::σ) H:=rfl
theorem Av{a0 a1 a2 a3 a4 a5 a6 a7 a8 a9 a10 a11 a12 a13:Option V}{a:Option V}{v:V}{σ:St}{H:Hp}{Q:St->Hp->Prop}:cQ 14 v (a0::a1::a2::a3::a4::a5::a6::a7::a8::a9::a10::a11::a12::a13::a::σ) H Q=Q (a0::a1::a2::a3::a4::a5::a6::a7::a8::a9::a10::a11::a12::a13::some v::σ) H:=rfl
def aV{α:Type}:Option α->(α->Prop)->Prop
 | some x,k=>k x
 | none,_=>False
theorem mQ{α:Type}(x:α)(k:α->Prop):aV (some x) k=k x:=rfl
theorem au{α:Type}{o:Option α}{k:α->Prop}(h:aV o k):∃ x,o=some x/\k x:=by
 cases o with
 | none=>exact h.elim
 | some x=>exact⟨x,rfl,h⟩
def IK:HO->Option (List V)
 | .lst xs=>some xs
 | .tup xs=>some xs
 | .frz _ (.lst xs)=>some xs
 | _=>none
def Js:HO->Option (List V)
 | .lst xs=>some xs
 | _=>none
def Je:HO->Option (List V)
 | .tup xs=>some xs
 | _=>none
def dA(H:Hp)(p:Addr):Option (List V):=(H p).bind IK
def aQ(H:Hp)(p:Addr):Option (List V):=(H p).bind Js
def ki(H:Hp)(p:Addr):Option (List V):=(H p).bind Je
theorem yW(xs:List V):IK (.lst xs)=some xs:=rfl
theorem yV(xs:List V):IK (.tup xs)=some xs:=rfl
theorem zO(xs:List V):Js (.lst xs)=some xs:=rfl
theorem yT(xs:List V):Je (.tup xs)=some xs:=rfl
theorem uk{α β:Type}(x:α)(f:α->Option β):(some x).bind f=f x:=rfl
abbrev Ext(H H':Hp):Prop:=(∀ a,(H a).isSome=true->H' a=H a)/\∀ (K:PySem.W.Frag) a xs,SqL K H a xs->SqL K H' a xs
def IS(r:R2)(x:V)(Q:VK):VK:=λ y H=>r x y H Q
theorem Bu(r:R2)(x y:V)(H:Hp)(Q:VK):(IS r x Q y H)=(r x y H Q):=rfl
def kOp(r:R2)(tb:TE)(σ:St)(Q:VK):VK:=λ x H=>tb σ H (IS r x Q)
theorem Ku(r:R2)(tb:TE)(σ:St)(Q:VK)(x:V)(H:Hp):(kOp r tb σ Q x H)=(tb σ H (IS r x Q)):=rfl
theorem Kf(r:R2)(ta tb:TE)(σ:St)(H:Hp)(Q:VK):(tOp r ta tb σ H Q)=(ta σ H (kOp r tb σ Q)):=rfl
theorem Mc(v:V)(σ:St)(H:Hp)(Q:VK):(tC v σ H Q)=(Q v H):=rfl
def kUn(r:V->Hp->VK->Prop)(Q:VK):VK:=λ x H=>r x H Q
theorem Kp(r:V->Hp->VK->Prop)(Q:VK)(x:V)(H:Hp):(kUn r Q x H)=(r x H Q):=rfl
theorem Kc(r:V->Hp->VK->Prop)(ta:TE)(σ:St)(H:Hp)(Q:VK):(tUn r ta σ H Q)=(ta σ H (kUn r Q)):=rfl
def Jj:R2:=λ x y H Q=>y=.non/\Q (.bl (decide (x=.non))) H
def BS:R2:=λ x y H Q=>y=.non/\Q (.bl (!decide (x=.non))) H
theorem tm(H:Hp)(Q:VK):Jj (.non) .non H Q=Q (.bl true) H:=propext ⟨λ h=>h.2,λ h=>⟨rfl,h⟩⟩
theorem pY(H:Hp)(Q:VK):BS (.non) .non H Q=Q (.bl false) H:=propext ⟨λ h=>h.2,λ h=>⟨rfl,h⟩⟩
theorem sZ(i:Addr)(H:Hp)(Q:VK):Jj (.ref i) .non H Q=Q (.bl false) H:=propext ⟨λ h=>h.2,λ h=>⟨rfl,h⟩⟩
theorem pW(i:Addr)(H:Hp)(Q:VK):BS (.ref i) .non H Q=Q (.bl true) H:=propext ⟨λ h=>h.2,λ h=>⟨rfl,h⟩⟩
def FF(Q:Bool->Hp->Prop):VK:=λ x H=>∃ k,x=.bl k/\Q k H
def Lv(Q:Bool->Hp->Prop):Bool->Hp->Prop:=λ c H=>Q (!c) H
theorem HE(Q:Bool->Hp->Prop)(c:Bool)(H:Hp):(Lv Q c H)=(Q (!c) H):=rfl
theorem GX(t:TT)(σ:St)(H:Hp)(Q:Bool->Hp->Prop):(K7 t σ H Q)=(t σ H (Lv Q)):=rfl
def LG(u:TT)(σ:St)(Q:Bool->Hp->Prop):Bool->Hp->Prop:=λ c H=>if c=true then u σ H Q else Q false H
theorem Ih(u:TT)(σ:St)(Q:Bool->Hp->Prop)(c:Bool)(H:Hp):(LG u σ Q c H)=(if c=true then u σ H Q else Q false H):=rfl
theorem G9(t u:TT)(σ:St)(H:Hp)(Q:Bool->Hp->Prop):(Lb t u σ H Q)=(t σ H (LG u σ Q)):=rfl
def kOr(u:TT)(σ:St)(Q:Bool->Hp->Prop):Bool->Hp->Prop:=λ c H=>if c=true then Q true H else u σ H Q
theorem Kt(u:TT)(σ:St)(Q:Bool->Hp->Prop)(c:Bool)(H:Hp):(kOr u σ Q c H)=(if c=true then Q true H else u σ H Q):=rfl
theorem Ke(t u:TT)(σ:St)(H:Hp)(Q:Bool->Hp->Prop):(tOr t u σ H Q)=(t σ H (kOr u σ Q)):=rfl
def KP(tb:TE)(σ:St)(Q:VK):VK:=λ x H=>∃ c,x=.bl c/\if c=true then tb σ H Q else Q (.bl false) H
def Mj(tb:TE)(σ:St)(Q:VK):VK:=λ x H=>∃ c,x=.bl c/\if c=true then Q (.bl true) H else tb σ H Q
def KJ(Q:VK):VK:=λ x H=>∃ c,x=.bl c/\Q (.bl (!c)) H
def Lx(ta tb:TE)(σ:St)(Q:VK):Bool->Hp->Prop:=λ c H=>if c=true then ta σ H Q else tb σ H Q
theorem HK(ta tb:TE)(σ:St)(Q:VK)(c:Bool)(H:Hp):(Lx ta tb σ Q c H)=(if c=true then ta σ H Q else tb σ H Q):=rfl
theorem Kg(t:TT)(ta tb:TE)(σ:St)(H:Hp)(Q:VK):(tIf t ta tb σ H Q)=(t σ H (Lx ta tb σ Q)):=rfl
def IX(r':R2)(y:V)(Q:VK):VK:=λ w H=>r' y w H Q
theorem HW(r':R2)(y w:V)(Q:VK)(H:Hp):(IX r' y Q w H)=(r' y w H Q):=rfl
def JH(r':R2)(tc:TE)(σ:St)(y:V)(Q:VK):VK:=λ z H=>∃ k,z=.bl k/\(if k=true then tc σ H (IX r' y Q) else Q (.bl false) H)
def LB(r r':R2)(tc:TE)(σ:St)(x:V)(Q:VK):VK:=λ y H=>r x y H (JH r' tc σ y Q)
def Ml(r r':R2)(tb tc:TE)(σ:St)(Q:VK):VK:=λ x H=>tb σ H (LB r r' tc σ x Q)
theorem GY(σ:St)(H:Hp)(Q:List V->Hp->Prop):(E3 σ H Q)=(Q [] H):=rfl
def vk(x:V)(Q:List V->Hp->Prop):List V->Hp->Prop:=λ xs H=>Q (x::xs) H
theorem zL(x:V)(Q:List V->Hp->Prop)(xs:List V)(H:Hp):(vk x Q xs H)=(Q (x::xs) H):=rfl
def FK(tr:TA)(σ:St)(Q:List V->Hp->Prop):VK:=λ x H=>tr σ H (vk x Q)
theorem D6(tr:TA)(σ:St)(Q:List V->Hp->Prop)(x:V)(H:Hp):(FK tr σ Q x H)=(tr σ H (vk x Q)):=rfl
theorem Dn(ta:TE)(tr:TA)(σ:St)(H:Hp)(Q:List V->Hp->Prop):(ux ta tr σ H Q)=(ta σ H (FK tr σ Q)):=rfl
def oO(sp:Sp)(dvs:List V)(E:XK)(Q:VK):List V->Hp->Prop:=λ vs H=>sp (vs++dvs) H Q E
theorem xg(v0:V)(sp:Sp)(dvs:List V)(E:XK)(Q:VK)(H:Hp):oO sp dvs E Q [v0] H=sp (v0::dvs) H Q E:=rfl
theorem xf(v0 v1:V)(sp:Sp)(dvs:List V)(E:XK)(Q:VK)(H:Hp):oO sp dvs E Q [v0,v1] H=sp (v0::v1::dvs) H Q E:=rfl
theorem xc(v0 v1 v2:V)(sp:Sp)(dvs:List V)(E:XK)(Q:VK)(H:Hp):oO sp dvs E Q [v0,v1,v2] H=sp (v0::v1::v2::dvs) H Q E:=rfl
theorem xb(v0 v1 v2 v3:V)(sp:Sp)(dvs:List V)(E:XK)(Q:VK)(H:Hp):oO sp dvs E Q [v0,v1,v2,v3] H=sp (v0::v1::v2::v3::dvs) H Q E:=rfl
theorem xa(v0 v1 v2 v3 v4:V)(sp:Sp)(dvs:List V)(E:XK)(Q:VK)(H:Hp):oO sp dvs E Q [v0,v1,v2,v3,v4] H=sp (v0::v1::v2::v3::v4::dvs) H Q E:=rfl
theorem Dq(sp:Sp)(dvs:List V)(E:XK)(t:TA)(σ:St)(H:Hp)(Q:VK):(Fn sp dvs E t σ H Q)=(t σ H (oO sp dvs E Q)):=rfl
def kCB(r:List V->Hp->VK->Prop)(Q:VK):List V->Hp->Prop:=λ vs H=>r vs H Q
theorem KD(r:List V->Hp->VK->Prop)(Q:VK)(vs:List V)(H:Hp):(kCB r Q vs H)=(r vs H Q):=rfl
theorem Kh(r:List V->Hp->VK->Prop)(t:TA)(σ:St)(H:Hp)(Q:VK):(tCB r t σ H Q)=(t σ H (kCB r Q)):=rfl
theorem Dk(nx:St->Hp->Prop)(rt:VK)(bk ct:St->Hp->Prop)(σ:St)(H:Hp):(Fj ⟨nx,rt,bk,ct⟩ σ H)=(nx σ H):=rfl
theorem qC(t u:TS)(nx:St->Hp->Prop)(rt:VK)(bk ct:St->Hp->Prop)(σ:St)(H:Hp):(K3 t u ⟨nx,rt,bk,ct⟩ σ H)=(t ⟨u ⟨nx,rt,bk,ct⟩,rt,bk,ct⟩ σ H):=rfl
theorem GV(te:TE)(nx:St->Hp->Prop)(rt:VK)(bk ct:St->Hp->Prop)(σ:St)(H:Hp):(K4 te ⟨nx,rt,bk,ct⟩ σ H)=(te σ H rt):=rfl
def FJ(nx:St->Hp->Prop)(σ:St):VK:=λ x H=>nx σ H
theorem D1(nx:St->Hp->Prop)(σ:St)(x:V)(H:Hp):(FJ nx σ x H)=(nx σ H):=rfl
theorem Dl(te:TE)(nx:St->Hp->Prop)(rt:VK)(bk ct:St->Hp->Prop)(σ:St)(H:Hp):(Fl te ⟨nx,rt,bk,ct⟩ σ H)=(te σ H (FJ nx σ)):=rfl
def Lw(t u:TS)(D:gd)(σ:St):Bool->Hp->Prop:=λ b H=>if b=true then t D σ H else u D σ H
theorem HJ(t u:TS)(D:gd)(σ:St)(b:Bool)(H:Hp):(Lw t u D σ b H)=(if b=true then t D σ H else u D σ H):=rfl
theorem jL(c:TT)(t u:TS)(D:gd)(σ:St)(H:Hp):(IJ c t u D σ H)=(c σ H (Lw t u D σ)):=rfl
def LD(g:TG)(σ:St)(nx:St->Hp->Prop):VK:=λ x H=>g x σ H nx
theorem Ie(g:TG)(σ:St)(nx:St->Hp->Prop)(x:V)(H:Hp):(LD g σ nx x H)=(g x σ H nx):=rfl
theorem G8(te:TE)(g:TG)(nx:St->Hp->Prop)(rt:VK)(bk ct:St->Hp->Prop)(σ:St)(H:Hp):(Jf te g ⟨nx,rt,bk,ct⟩ σ H)=(te σ H (LD g σ nx)):=rfl
def Lu(i j:Nat)(σ:St)(nx:St->Hp->Prop):List V->Hp->Prop:=λ vs H=>∃ v w,vs=[v,w]/\nx ((σ.set i (some v)).set j (some w)) H
theorem HC(i j:Nat)(σ:St)(nx:St->Hp->Prop)(v w:V)(H:Hp):Lu i j σ nx [v,w] H=cQ i v σ H (λ σ' H'=>cQ j w σ' H' nx):=propext ⟨λ ⟨_,_,e,q⟩=>by cases e;exact q,λ q=>⟨v,w,rfl,q⟩⟩
theorem GW(i j:Nat)(ta:TA)(nx:St->Hp->Prop)(rt:VK)(bk ct:St->Hp->Prop)(σ:St)(H:Hp):(K5 i j ta ⟨nx,rt,bk,ct⟩ σ H)=(ta σ H (Lu i j σ nx)):=rfl
def kGs(u:TGs)(r:List V)(Q:St->Hp->Prop):St->Hp->Prop:=λ σ' H'=>u r σ' H' Q
theorem Kx(u:TGs)(r:List V)(Q:St->Hp->Prop)(σ:St)(H:Hp):(kGs u r Q σ H)=(u r σ H Q):=rfl
section
variable {X:Cx}
theorem OpR.mono{f:Value->Value->Sem Value}{r r':R2}(h:OpR X f r)(m:∀ x y H Q,r' x y H Q->r x y H Q):OpR X f r':=λ pins s σ H x y v u Q I rx ry hq=>h pins s σ H x y v u Q I rx ry (m _ _ _ _ hq)
theorem bD.mono{f:Value}{r r':List V->Hp->VK->Prop}(h:bD X f r)(m:∀ xs H Q,r' xs H Q->r xs H Q):bD X f r':=λ pins s σ H xs us Q I rx hq=>h pins s σ H xs us Q I rx (m _ _ _ hq)
theorem IxR.mono{r r':R2}(h:IxR X r)(m:∀ x y H Q,r' x y H Q->r x y H Q):IxR X r':=λ a b pins s σ H x y v u Q I rx ry hq=>h a b pins s σ H x y v u Q I rx ry (m _ _ _ _ hq)
theorem SlR.mono{r r':V->Option Int->Option Int->Hp->VK->Prop}(h:SlR X r)(m:∀ x lo hi H Q,r' x lo hi H Q->r x lo hi H Q):SlR X r':=λ pins s σ H x v vl vu lo hi sl Q I rx a b c hq=>h pins s σ H x v vl vu lo hi sl Q I rx a b c (m _ _ _ _ _ hq)
theorem PG.mono{tg:Expr}{g g':TG}(h:PG X tg g)(m:∀ v σ H Q,g' v σ H Q->g v σ H Q):PG X tg g':=λ pins s σ H v u Q I r hq=>h pins s σ H v u Q I r (m _ _ _ _ hq)
theorem jc{K:W.Frag}{H:Hp}{p:Addr}{ys:List V}(h:dA H p=some ys):SqL K H p ys\/SqT K H p ys:=by
 unfold dA at h
 cases e:H p with
 | none=>rw [e] at h;cases h
 | some o=>
  rw [e] at h;have h':IK o=some ys:=h
  cases o with
  | lst xs=>cases h';exact .inl (SqL.of e)
  | tup xs=>cases h';exact .inr (SqT.of e)
  | frz ob u=>
   cases u with
   | lst xs=>cases h';exact .inl (.inl (.inr ⟨ob,e⟩))
   | _=>cases h'
  | _=>cases h'
theorem dh{H:Hp}{p:Addr}{ys:List V}(h:aQ H p=some ys):H p=some (.lst ys):=by
 unfold aQ at h
 cases e:H p with
 | none=>rw [e] at h;cases h
 | some o=>
  rw [e] at h;have h':Js o=some ys:=h
  cases o with
  | lst xs=>cases h';rfl
  | _=>cases h'
theorem uJ{H:Hp}{p:Addr}{ys:List V}(h:ki H p=some ys):H p=some (.tup ys):=by
 unfold ki at h
 cases e:H p with
 | none=>rw [e] at h;cases h
 | some o=>
  rw [e] at h;have h':Je o=some ys:=h
  cases o with
  | tup xs=>cases h';rfl
  | _=>cases h'
def Jy(H:Hp)(Q:VK):List V->Prop:=λ ys=>Q (.int ys.length) H
theorem HH(H:Hp)(Q:VK)(ys:List V):Jy H Q ys=Q (.int ys.length) H:=rfl
def E5(xs:List V)(H:Hp)(Q:VK):Prop:=match xs with
 | [.ref p]=>aV (dA H p) (Jy H Q)
 | [.str z]=>z.length<=sizeLine/\Q (.int z.length) H
 | _=>False
theorem Hm(p:Addr)(H:Hp)(Q:VK):E5 [.ref p] H Q=aV (dA H p) (Jy H Q):=rfl
theorem aA:bD X (.builtin "len") E5:=by
 refine(dr.or oi).mono λ xs H Q h=>?_;unfold E5 at h;split at h
 ·rename_i p;obtain⟨ys,e,q⟩:=au h;exact .inl ⟨p,ys,rfl,jc e,q⟩
 ·rename_i z;exact .inr ⟨z,rfl,h.1,h.2⟩
 ·exact h.elim
def Jz(H:Hp)(Q:VK):V->Prop:=λ v=>Q v H
theorem HI(H:Hp)(Q:VK)(v:V):Jz H Q v=Q v H:=rfl
def kIx(i:Int)(H:Hp)(Q:VK):List V->Prop:=λ ys=>aV (atI ys i) (Jz H Q)
theorem Kw(i:Int)(H:Hp)(Q:VK)(ys:List V):kIx i H Q ys=aV (atI ys i) (Jz H Q):=rfl
def qIx:R2:=λ x y H Q=>match x,y with
 | .ref p,.int i=>aV (dA H p) (kIx i H Q)
 | _,_=>False
theorem Kj(p:Addr)(i:Int)(H:Hp)(Q:VK):qIx (.ref p) (.int i) H Q=aV (dA H p) (kIx i H Q):=rfl
theorem aH:IxR X qIx:=by
 refine(pI.or Iy).mono λ x y H Q h=>?_;unfold qIx at h;split at h
 ·rename_i p i;obtain⟨ys,e,q⟩:=au h;obtain⟨v,e2,q2⟩:=au q
  rcases jc (K:=X.K) e with z|z
  ·exact .inl ⟨p,ys,i,v,rfl,rfl,z,e2,q2⟩
  ·exact .inr ⟨p,ys,i,v,rfl,rfl,z,e2,q2⟩
 ·exact h.elim
theorem KY{α:Type}(a:α)(xs:List α):atI (a::xs) 0=some a:=fQ (j:=0) rfl
theorem KW{α:Type}(a b:α)(xs:List α):atI (a::b::xs) 1=some b:=fQ (j:=1) rfl
theorem KU{α:Type}(a b c:α)(xs:List α):atI (a::b::c::xs) 2=some c:=fQ (j:=2) rfl
def KL(H:Hp)(Q:VK):List V->Prop:=λ ys=>∀ l,H l=none->Q (.ref l) (upd H l (.lst ys))
def Fw(xs:List V)(H:Hp)(Q:VK):Prop:=match xs with
 | [.ref p]=>aV (dA H p) (KL H Q)
 | _=>False
theorem tZ:bD X (.type "list") Fw:=by
 refine oh.mono λ xs H Q h=>?_;unfold Fw at h;split at h
 ·rename_i p;obtain⟨ys,e,q⟩:=au h;exact⟨p,ys,rfl,jc e,q⟩
 ·exact h.elim
def B6(p:Addr)(H:Hp)(Q:VK):HO->Prop:=λ o=>match o with
 | .lst ys=>∀ l,H l=none->Q (.ref l) (upd H l (.tup ys))
 | .tup _=>Q (.ref p) H
 | _=>False
def Bj(xs:List V)(H:Hp)(Q:VK):Prop:=match xs with
 | [.ref p]=>aV (H p) (B6 p H Q)
 | _=>False
theorem p9:bD X (.type "tuple") Bj:=by
 refine mh.mono λ xs H Q h=>?_;unfold Bj at h;split at h
 ·rename_i p;obtain⟨o,e,q⟩:=au h;unfold B6 at q;split at q
  ·rename_i ys;exact⟨p,ys,rfl,.inl ⟨SqL.of e,q⟩⟩
  ·rename_i ys;exact⟨p,ys,rfl,.inr ⟨SqT.of e,q⟩⟩
  ·exact q.elim
 ·exact h.elim
def Jp(xs:List V)(H:Hp)(Q:VK):Prop:=match xs with
 | [.int i]=>Q (.int (if i < 0 then -i else i)) H
 | _=>False
theorem Hq(i:Int)(H:Hp)(Q:VK):Jp [.int i] H Q=Q (.int (if i < 0 then -i else i)) H:=rfl
theorem bC:bD X (.builtin "abs") Jp:=by
 refine AS.mono λ xs H Q h=>?_;unfold Jp at h;split at h
 ·rename_i i;exact⟨i,rfl,h⟩
 ·exact h.elim
def Jm(xs:List V)(H:Hp)(Q:VK):Prop:=match xs with
 | [.int i,.int j]=>Q (.int (if i < j then j else i)) H
 | _=>False
theorem Hk(i j:Int)(H:Hp)(Q:VK):Jm [.int i,.int j] H Q=Q (.int (if i < j then j else i)) H:=rfl
theorem cV(hc:X.calm=true):bD X (.builtin "max") Jm:=by
 refine(xV hc).mono λ xs H Q h=>?_;unfold Jm at h;split at h
 ·rename_i i j;exact⟨i,j,rfl,h⟩
 ·exact h.elim
def Jl(xs:List V)(H:Hp)(Q:VK):Prop:=match xs with
 | [.int i,.int j]=>Q (.int (if j < i then j else i)) H
 | _=>False
theorem Hj(i j:Int)(H:Hp)(Q:VK):Jl [.int i,.int j] H Q=Q (.int (if j < i then j else i)) H:=rfl
theorem cU(hc:X.calm=true):bD X (.builtin "min") Jl:=by
 refine(xU hc).mono λ xs H Q h=>?_;unfold Jl at h;split at h
 ·rename_i i j;exact⟨i,j,rfl,h⟩
 ·exact h.elim
def tyO:HO->Option String
 | .lst _=>some "list"
 | .tup _=>some "tuple"
 | .frz _ (.lst _)=>some "list"
 | .dK _=>some "dict"
 | .dT _=>some "dict"
 | _=>none
theorem Cp(xs:List V):tyO (.lst xs)=some "list":=rfl
theorem Co(xs:List V):tyO (.tup xs)=some "tuple":=rfl
def tyN(H:Hp):V->Option String
 | .non=>some "NoneType"
 | .bl _=>some "bool"
 | .int _=>some "int"
 | .str _=>some "str"
 | .ref p=>(H p).bind tyO
 | _=>none
theorem Cs(H:Hp):tyN H .non=some "NoneType":=rfl
theorem FX(H:Hp)(b:Bool):tyN H (.bl b)=some "bool":=rfl
theorem Ct(H:Hp)(i:Int):tyN H (.int i)=some "int":=rfl
theorem Cq(H:Hp)(x:Str):tyN H (.str x)=some "str":=rfl
theorem Cr(H:Hp)(p:Addr):tyN H (.ref p)=(H p).bind tyO:=rfl
theorem FW{K:W.Frag}{H:Hp}{x:V}{t:String}(h:tyN H x=some t):qp K H x (.type t):=by
 cases x with
 | non=>cases h;exact .non
 | bl b=>cases h;exact .bl b
 | int i=>cases h;exact .int i
 | str x=>cases h;exact .str x
 | ref p=>
  have h':(H p).bind tyO=some t:=h
  cases e:H p with
  | none=>rw [e] at h';cases h'
  | some o=>
   rw [e] at h';have h2:tyO o=some t:=h'
   cases o with
   | lst xs=>cases h2;exact .lst e
   | tup xs=>cases h2;exact .tup e
   | dK xs=>cases h2;exact .dK e
   | dT xs=>cases h2;exact .dT e
   | frz ob u=>
    cases u with
    | lst xs=>cases h2;exact .frz e
    | _=>cases h2
   | _=>cases h2
 | _=>cases h
def mE:List String:=["NoneType", "bool", "int", "str", "list", "tuple", "dict"]
def LJ(t n:String):Bool:=t == n || (t == "bool" && n == "int")
theorem Aj(K:W.Frag):∀ t∈mE,∀ n∈mE,W.kitOne K (.type t) (.type n)=some (LJ t n):=by
 intro t ht n hn;unfold mE at ht hn;simp only [mem_cons,not_mem_nil,or_false] at ht hn
 rcases ht with rfl|rfl|rfl|rfl|rfl|rfl|rfl<;>rcases hn with rfl|rfl|rfl|rfl|rfl|rfl|rfl<;>exact xA K _ _ _ (by decide +kernel)
def oA(n:String)(H:Hp)(Q:VK):String->Prop:=λ t=>t∈mE/\Q (.bl (LJ t n)) H
def yo(xs:List V)(H:Hp)(Q:VK):Prop:=match xs with
 | [x,.ty n]=>n∈mE/\aV (tyN H x) (oA n H Q)
 | _=>False
theorem bf:bD X (.builtin "isinstance") yo:=by
 refine AR.mono λ xs H Q h=>?_;unfold yo at h;split at h
 ·rename_i x n;obtain⟨hn,h⟩:=h;obtain⟨t,e,ht,q⟩:=au h;exact⟨x,n,_,_,rfl,FW e,Aj _ t ht n hn,q⟩
 ·exact h.elim
theorem tu(x:V)(H:Hp)(Q:VK):yo [x,.ty "int"] H Q=aV (tyN H x) (oA "int" H Q):=by
 unfold yo;exact propext ⟨λ h=>h.2,λ h=>⟨by decide,h⟩⟩
theorem p0(x:V)(H:Hp)(Q:VK):yo [x,.ty "bool"] H Q=aV (tyN H x) (oA "bool" H Q):=by
 unfold yo;exact propext ⟨λ h=>h.2,λ h=>⟨by decide,h⟩⟩
theorem nZ(x:V)(H:Hp)(Q:VK):yo [x,.ty "tuple"] H Q=aV (tyN H x) (oA "tuple" H Q):=by
 unfold yo;exact propext ⟨λ h=>h.2,λ h=>⟨by decide,h⟩⟩
theorem pZ(x:V)(H:Hp)(Q:VK):yo [x,.ty "list"] H Q=aV (tyN H x) (oA "list" H Q):=by
 unfold yo;exact propext ⟨λ h=>h.2,λ h=>⟨by decide,h⟩⟩
theorem wZ(H:Hp)(Q:VK):oA "int" H Q "NoneType"=Q (.bl false) H:=propext ⟨λ h=>h.2,λ h=>⟨by decide,h⟩⟩
theorem wY(H:Hp)(Q:VK):oA "bool" H Q "bool"=Q (.bl true) H:=propext ⟨λ h=>h.2,λ h=>⟨by decide,h⟩⟩
theorem wX(H:Hp)(Q:VK):oA "int" H Q "bool"=Q (.bl true) H:=propext ⟨λ h=>h.2,λ h=>⟨by decide,h⟩⟩
theorem wV(H:Hp)(Q:VK):oA "bool" H Q "int"=Q (.bl false) H:=propext ⟨λ h=>h.2,λ h=>⟨by decide,h⟩⟩
theorem wU(H:Hp)(Q:VK):oA "int" H Q "int"=Q (.bl true) H:=propext ⟨λ h=>h.2,λ h=>⟨by decide,h⟩⟩
theorem wO(H:Hp)(Q:VK):oA "int" H Q "str"=Q (.bl false) H:=propext ⟨λ h=>h.2,λ h=>⟨by decide,h⟩⟩
theorem wR(H:Hp)(Q:VK):oA "int" H Q "list"=Q (.bl false) H:=propext ⟨λ h=>h.2,λ h=>⟨by decide,h⟩⟩
theorem wQ(H:Hp)(Q:VK):oA "list" H Q "list"=Q (.bl true) H:=propext ⟨λ h=>h.2,λ h=>⟨by decide,h⟩⟩
theorem wN(H:Hp)(Q:VK):oA "int" H Q "tuple"=Q (.bl false) H:=propext ⟨λ h=>h.2,λ h=>⟨by decide,h⟩⟩
theorem wM(H:Hp)(Q:VK):oA "tuple" H Q "tuple"=Q (.bl true) H:=propext ⟨λ h=>h.2,λ h=>⟨by decide,h⟩⟩
theorem wW(H:Hp)(Q:VK):oA "int" H Q "dict"=Q (.bl false) H:=propext ⟨λ h=>h.2,λ h=>⟨by decide,h⟩⟩
def JL(r:V->List V->Hp->VK->Prop)(x:V)(Q:VK):List V->Hp->Prop:=λ xs H=>r x xs H Q
theorem Ia(r:V->List V->Hp->VK->Prop)(x:V)(Q:VK)(xs:List V)(H:Hp):JL r x Q xs H=r x xs H Q:=rfl
def kBM(K:W.Frag)(T:String)(r:V->List V->Hp->VK->Prop)(t:TA)(σ:St)(Q:VK):VK:=λ x H=>tyV K T x H/\t σ H (JL r x Q)
theorem KG(K:W.Frag)(T:String)(r:V->List V->Hp->VK->Prop)(t:TA)(σ:St)(Q:VK)(x:V)(H:Hp):kBM K T r t σ Q x H=(tyV K T x H/\t σ H (JL r x Q)):=rfl
theorem Ki(K:W.Frag)(T:String)(r:V->List V->Hp->VK->Prop)(to:TE)(t:TA)(σ:St)(H:Hp)(Q:VK):tBM K T r to t σ H Q=to σ H (kBM K T r t σ Q):=rfl
def LC(K:W.Frag)(T:String)(r:V->List V->Hp->VK->Prop)(Q:VK):VK:=λ x H=>tyV K T x H/\r x [] H Q
theorem HZ(K:W.Frag)(T:String)(r:V->List V->Hp->VK->Prop)(Q:VK)(x:V)(H:Hp):LC K T r Q x H=(tyV K T x H/\r x [] H Q):=rfl
theorem G7(K:W.Frag)(T:String)(r:V->List V->Hp->VK->Prop)(to:TE)(σ:St)(H:Hp)(Q:VK):La K T r to σ H Q=to σ H (LC K T r Q):=rfl
theorem yQ(K:W.Frag)(p:Addr)(H:Hp)(h:(aQ H p).isSome=true):tyV K "list" (.ref p) H=True:=by
 cases e:aQ H p with
 | none=>rw [e] at h;cases h
 | some ys=>exact eq_true (.inl ⟨rfl,ys,SqL.of (dh e)⟩)
def LF(l:Addr)(y:V)(H:Hp)(Q:VK):List V->Prop:=λ xs=>xs.length < sizeLine/\Q .non (upd H l (.lst (xs++[y])))
theorem Ig(l:Addr)(y:V)(H:Hp)(Q:VK)(xs:List V):LF l y H Q xs=(xs.length < sizeLine/\Q .non (upd H l (.lst (xs++[y])))):=rfl
theorem wK(l:Addr)(y:V)(H:Hp)(Q:VK):vC (.ref l) [y] H Q=aV (aQ H l) (LF l y H Q):=by
 refine propext ⟨λ h=>?_,λ h=>?_⟩
 ·obtain⟨_,xs,_,e1,e2,e3,a,b⟩:=h;cases e1;cases e2;have e:aQ H l=some xs:=by unfold aQ;rw [e3];rfl
  rw [e];exact⟨a,b⟩
 ·obtain⟨xs,e,a,b⟩:=au h;exact⟨l,xs,y,rfl,rfl,dh e,a,b⟩
def Lr(l:Addr)(H:Hp)(Q:VK):List V->Prop:=λ xs=>Q .non (upd H l (.lst xs.reverse))
theorem HA(l:Addr)(H:Hp)(Q:VK)(xs:List V):Lr l H Q xs=Q .non (upd H l (.lst xs.reverse)):=rfl
theorem sY(l:Addr)(H:Hp)(Q:VK):qU (.ref l) [] H Q=aV (aQ H l) (Lr l H Q):=by
 refine propext ⟨λ h=>?_,λ h=>?_⟩
 ·obtain⟨_,xs,e1,_,e3,b⟩:=h;cases e1;have e:aQ H l=some xs:=by unfold aQ;rw [e3];rfl
  rw [e];exact b
 ·obtain⟨xs,e,b⟩:=au h;exact⟨l,xs,rfl,rfl,dh e,b⟩
def Cb(l:Addr)(H:Hp)(Q:VK)(xs:List V):V->Prop:=λ y=>Q y (upd H l (.lst xs.dropLast))
theorem DQ(l:Addr)(H:Hp)(Q:VK)(xs:List V)(y:V):Cb l H Q xs y=Q y (upd H l (.lst xs.dropLast)):=rfl
def Ls(l:Addr)(H:Hp)(Q:VK):List V->Prop:=λ xs=>aV (xs[xs.length - 1]?) (Cb l H Q xs)
theorem HB(l:Addr)(H:Hp)(Q:VK)(xs:List V):Ls l H Q xs=aV (xs[xs.length - 1]?) (Cb l H Q xs):=rfl
theorem Hf(l:Addr)(H:Hp)(Q:VK):Ld (.ref l) [] H Q=aV (aQ H l) (Ls l H Q):=by
 refine propext ⟨λ h=>?_,λ h=>?_⟩
 ·obtain⟨_,xs,y,e1,_,e3,e4,b⟩:=h;cases e1;have e:aQ H l=some xs:=by unfold aQ;rw [e3];rfl
  rw [e]
  show aV (xs[xs.length - 1]?) _
  rw [e4];exact b
 ·obtain⟨xs,e,b⟩:=au h;obtain⟨y,e4,b⟩:=au b;exact⟨l,xs,y,rfl,rfl,dh e,e4,b⟩
def KN(xs:List V)(H:Hp)(Q:VK):List V->Prop:=λ ys=>xs.length+ys.length<=sizeLine/\∀ p,H p=none->Q (.ref p) (upd H p (.lst (xs++ys)))
def KO(b:Addr)(H:Hp)(Q:VK):List V->Prop:=λ xs=>aV (aQ H b) (KN xs H Q)
theorem Hg(l b:Addr)(H:Hp)(Q:VK):Lf (.ref l) (.ref b) H Q=aV (aQ H l) (KO b H Q):=by
 refine propext ⟨λ h=>?_,λ h=>?_⟩
 ·obtain⟨l',b',xs,zs,e1,e2,e3,e4,hz,hq⟩:=h;cases e1;cases e2;have e:aQ H l=some xs:=by unfold aQ;rw [e3];rfl
  have e':aQ H b=some zs:=by unfold aQ;rw [e4];rfl
  rw [e]
  show aV (aQ H b) _
  rw [e'];exact⟨hz,hq⟩
 ·obtain⟨xs,e,q⟩:=au h;obtain⟨zs,e',a,q⟩:=au q;exact⟨l,b,xs,zs,rfl,rfl,dh e,dh e',a,q⟩
def Ca(p:Addr)(xs:List V)(v:V)(H:Hp)(Q:Hp->Prop):Nat->Prop:=λ j=>Q (upd H p (.lst (xs.set j v)))
theorem DP(p:Addr)(xs:List V)(v:V)(H:Hp)(Q:Hp->Prop)(j:Nat):Ca p xs v H Q j=Q (upd H p (.lst (xs.set j v))):=rfl
def Lq(p:Addr)(i:Int)(v:V)(H:Hp)(Q:Hp->Prop):List V->Prop:=λ xs=>aV (ixN xs.length i) (Ca p xs v H Q)
theorem Hx(p:Addr)(i:Int)(v:V)(H:Hp)(Q:Hp->Prop)(xs:List V):Lq p i v H Q xs=aV (ixN xs.length i) (Ca p xs v H Q):=rfl
theorem Dv(p:Addr)(i:Int)(v:V)(H:Hp)(Q:Hp->Prop):Ft (.ref p) (.int i) v H Q=aV (aQ H p) (Lq p i v H Q):=by
 refine propext ⟨λ h=>?_,λ h=>?_⟩
 ·obtain⟨_,xs,_,j,e1,e2,e3,e4,b⟩:=h;cases e1;cases e2;have e:aQ H p=some xs:=by unfold aQ;rw [e3];rfl
  rw [e]
  show aV (ixN xs.length i) _
  rw [e4];exact b
 ·obtain⟨xs,e,q⟩:=au h;obtain⟨j,e4,q⟩:=au q;exact⟨p,xs,i,j,rfl,rfl,dh e,e4,q⟩
def vh(t:A8)(o v:V)(σ:St)(Q:St->Hp->Prop):VK:=λ i H=>t o i v H λ H3=>Q σ H3
theorem zG(t:A8)(o v:V)(σ:St)(Q:St->Hp->Prop)(i:V)(H:Hp):vh t o v σ Q i H=t o i v H (Q σ):=rfl
def By(ti:TE)(t:A8)(v:V)(σ:St)(Q:St->Hp->Prop):VK:=λ o H=>ti σ H (vh t o v σ Q)
theorem zH(ti:TE)(t:A8)(v:V)(σ:St)(Q:St->Hp->Prop)(o:V)(H:Hp):By ti t v σ Q o H=ti σ H (vh t o v σ Q):=rfl
theorem Il(to ti:TE)(t:A8)(v:V)(σ:St)(H:Hp)(Q:St->Hp->Prop):LN to ti t v σ H Q=to σ H (By ti t v σ Q):=rfl
def kGT(n:Nat)(t:TGs)(σ:St)(H:Hp)(Q:St->Hp->Prop):List V->Prop:=λ xs=>xs.length=n/\t xs σ H Q
theorem Ky(n:Nat)(t:TGs)(σ:St)(H:Hp)(Q:St->Hp->Prop)(xs:List V):kGT n t σ H Q xs=(xs.length=n/\t xs σ H Q):=rfl
def qGT(n:Nat)(t:TGs):TG:=λ v σ H Q=>match v with
 | .ref a=>aV (ki H a) (kGT n t σ H Q)
 | _=>False
theorem Kk(n:Nat)(t:TGs)(a:Addr)(σ:St)(H:Hp)(Q:St->Hp->Prop):qGT n t (.ref a) σ H Q=aV (ki H a) (kGT n t σ H Q):=rfl
theorem aX{K:W.Frag}{n:Nat}{t:TGs}{v:V}{σ:St}{H:Hp}{Q:St->Hp->Prop}(h:qGT n t v σ H Q):LM K n t v σ H Q:=by
 unfold qGT at h;split at h
 ·rename_i a;obtain⟨xs,e,hl,q⟩:=au h;exact⟨a,xs,rfl,SqT.of (uJ e),hl,q⟩
 ·exact h.elim
theorem qx:OpR X (compareOp .Is) Jj:=GA
theorem rh:OpR X (compareOp .IsNot) BS:=CZ
def sH(tb:TS)(D:gd):St->Hp->Prop:=λ σ H=>tb D σ H
theorem aN(tb:TS)(D:gd)(σ:St)(H:Hp):sH tb D σ H=tb D σ H:=rfl
def ET(g:TG)(tb:TS)(D:gd)(σ:St)(J:It)(H1:Hp):Prop:=∃ W:Nat->Nat->St->Hp->Prop,(∃ m,W 0 m σ H1)/\∀ i m σ H,W i m σ H →
 (J.stop i H/\D.nx σ H)\/(J.go i H/\∃ N:St->Hp->Prop,(∀ σ' H',N σ' H'->∃ m',m' < m/\W (i+1) m' σ' H')/\∀ x H',J.yld i H x H'->g x σ H' λ σ2 H2=>tb { D with nx:=N,ct:=N,bk:=D.nx } σ2 H2)
theorem GZ(wi:TI)(g:TG)(tb:TS)(D:gd)(σ:St)(H:Hp):K8 wi g tb D σ H=wi σ H (ET g tb D σ):=rfl
def kR1(R:It->Hp->Prop):List V->Hp->Prop:=λ vs H=>∃ j:Int,vs=[.int j]/\-(2 ^ 62)<=j/\j < 2 ^ 62/\R (Itr 0 j.toNat) H
theorem Kq(R:It->Hp->Prop)(j:Int)(H:Hp):kR1 R [.int j] H=(-(2 ^ 62)<=j/\j < 2 ^ 62/\R (Itr 0 j.toNat) H):=propext ⟨λ ⟨_,e,q⟩=>by cases e;exact q,λ q=>⟨j,rfl,q⟩⟩
theorem Ec(ta:TA)(σ:St)(H:Hp)(R:It->Hp->Prop):FL ta σ H R=ta σ H (kR1 R):=rfl
def yD(K:W.Frag)(a:Addr)(H:Hp)(R:It->Hp->Prop):HO->Prop:=λ o=>match o with
 | .lst _=>R (Itl K a) H
 | .frz _ (.lst _)=>R (Itl K a) H
 | .tup _=>R (Itt K a) H
 | _=>False
theorem w9(K:W.Frag)(a:Addr)(H:Hp)(R:It->Hp->Prop)(xs:List V):yD K a H R (.lst xs)=R (Itl K a) H:=rfl
def IU(K:W.Frag)(R:It->Hp->Prop):VK:=λ x H=>match x with
 | .ref a=>aV (H a) (yD K a H R)
 | _=>False
theorem HL(K:W.Frag)(R:It->Hp->Prop)(a:Addr)(H:Hp):IU K R (.ref a) H=aV (H a) (yD K a H R):=rfl
def JO(K:W.Frag)(tl:TE):TI:=λ σ H R=>tl σ H (IU K R)
theorem Ij(K:W.Frag)(tl:TE)(σ:St)(H:Hp)(R:It->Hp->Prop):JO K tl σ H R=tl σ H (IU K R):=rfl
theorem Bo{tg l:Expr}{tl:TE}(hl:PE X l tl):PI X tg l (JO X.K tl):=by
 intro pins s σ H R I h;refine thn (hl pins s σ H _ I h) λ v s1 ⟨x,H1,I1,r1,q1⟩=>?_;unfold IU at q1;split at q1
 ·rename_i a;cases r1;obtain⟨o,e,q⟩:=au q1
  have fp:∀ b∈[s1.heap.objs.size],oI X pins H1 b:=λ b hb=>by
   have e:b=s1.heap.objs.size:=by simpa using hb
   subst e;exact I1.fpOk (MG _) (I1.hok.fresh (MG _))
  have lst:∀ xs,SqL X.K H1 a xs->R (Itl X.K a) H1->wpAny (model X.prog X.w) X.A (pyIter (.ref a)) (PIE X pins σ tg R) X.xe s1:=λ xs hq q=>by
   obtain⟨its,rv,p,hz⟩:=I1.list hq;refine O5 p.isList ?_;exact⟨s1.heap.objs.size,[s1.heap.objs.size],_,_,H1,rfl,I1.kept (t':=s1.toks) λ b o e=>Mz _ e,wo a _,⟨_,MO _ rfl,rfl,rfl⟩,fp,q⟩
  unfold yD at q;split at q
  ·exact lst _ (SqL.of e) q
  ·exact lst _ (.inl (.inr ⟨_,e⟩)) q
  ·obtain⟨its,rv,p,hz⟩:=I1.tuple (SqT.of e);refine wpAny_pyIter_tuple (show s1.heap.IsTuple a its.toArray from p) ?_;exact⟨s1.heap.objs.size,[s1.heap.objs.size],_,_,H1,rfl,I1.kept (t':=s1.toks) λ b o e=>Mz _ e,sL a _,⟨_,MO _ rfl,rfl,rfl⟩,fp,q⟩
  ·exact q.elim
 ·exact q1.elim
theorem pL{lo:Int}{n:Nat}{g:TG}{tb:TS}{nx:St->Hp->Prop}{rt:VK}{bk ct:St->Hp->Prop}{σ:St}{H:Hp}(Pv:Nat->St->Hp->Prop)(h0:Pv 0 σ H)
  (hs:∀ i σ H,i < n->Pv i σ H->g (.int (lo+i)) σ H (sH tb ⟨Pv (i+1),rt,nx,Pv (i+1)⟩)) (hd:∀ σ H,Pv n σ H->nx σ H):ET g tb ⟨nx,rt,bk,ct⟩ σ (Itr lo n) H:=xH Pv h0 hs hd
theorem dB{K:W.Frag}{a:Addr}{xs:List V}{g:TG}{tb:TS}{nx:St->Hp->Prop}{rt:VK}{bk ct:St->Hp->Prop}{σ:St}{H:Hp}(Pv:Nat->St->Hp->Prop)(h0:Pv 0 σ H)(hl:∀ i σ H,i<=xs.length->Pv i σ H->H a=some (.lst xs))
  (hs:∀ i x σ H,xs[i]? = some x->Pv i σ H->g x σ H (sH tb ⟨Pv (i+1),rt,nx,Pv (i+1)⟩)) (hd:∀ σ H,Pv xs.length σ H->nx σ H):ET g tb ⟨nx,rt,bk,ct⟩ σ (Itl K a) H:=AD (xs:=xs) Pv h0 (λ i σ H hi p=>SqL.of (hl i σ H hi p)) hs hd
def kWh(tb:TS)(nx:St->Hp->Prop)(rt:VK)(Pv:Nat->St->Hp->Prop)(m:Nat)(σ:St):Bool->Hp->Prop:=λ b H=>if b=true then tb ⟨λ σ' H'=>∃ m',m' < m/\Pv m' σ' H',rt,nx,λ σ' H'=>∃ m',m' < m/\Pv m' σ' H'⟩ σ H else nx σ H
theorem Ko(tb:TS)(nx:St->Hp->Prop)(rt:VK)(Pv:Nat->St->Hp->Prop)(m:Nat)(σ:St)(b:Bool)(H:Hp):kWh tb nx rt Pv m σ b H=(if b=true then tb ⟨λ σ' H'=>∃ m',m' < m/\Pv m' σ' H',rt,nx,λ σ' H'=>∃ m',m' < m/\Pv m' σ' H'⟩ σ H else nx σ H):=rfl
theorem Ck{c:TT}{tb:TS}{nx:St->Hp->Prop}{rt:VK}{bk ct:St->Hp->Prop}{σ:St}{H:Hp}(Pv:Nat->St->Hp->Prop)(m0:Nat)(h0:Pv m0 σ H)
  (mono:∀ σ H Q Q',(∀ b H1,Q b H1->Q' b H1)->c σ H Q->c σ H Q')
  (hs:∀ m σ H,Pv m σ H->c σ H (kWh tb nx rt Pv m σ)):uK c tb ⟨nx,rt,bk,ct⟩ σ H:=by
 refine⟨Pv,⟨m0,h0⟩,λ m σ H p=>mono σ H _ _ (λ b H1 q=>?_) (hs m σ H p)⟩;unfold kWh at q
 cases b with
 | true=>exact⟨_,λ σ' H' z=>z,q⟩
 | false=>exact q
end
theorem zz(sp:Sp)(dvs:List V)(E:St->XK)(t:TA)(σ:St)(H:Hp)(Q:VK):Bg sp dvs E t σ H Q=t σ H (oO sp dvs (E σ) Q):=rfl
def Ln(th:Value->Option Addr->TS)(D:gd):St->XK:=λ σ cls d H=>th cls d D σ H
theorem Ht(th:Value->Option Addr->TS)(D:gd)(σ:St)(cls:Value)(d:Option Addr)(H:Hp):Ln th D σ cls d H=th cls d D σ H:=rfl
theorem GU(tb:(St->XK)->TS)(th:Value->Option Addr->TS)(D:gd)(σ:St)(H:Hp):K2 tb th D σ H=tb (Ln th D) D σ H:=rfl
def Bw(C:Addr)(E:XK):List V->Hp->Prop:=λ vs H=>vs.length<=sizeLine/\E (.ref C) none H
theorem zE(C:Addr)(E:XK)(vs:List V)(H:Hp):Bw C E vs H=(vs.length<=sizeLine/\E (.ref C) none H):=rfl
theorem zw(C:Addr)(E:St->XK)(t:TA)(D:gd)(σ:St)(H:Hp):Bd C E t D σ H=t σ H (Bw C (E σ)):=rfl
def B8(i:Nat)(tb:TS)(D:gd):St->Hp->Prop:=λ σ H=>tb D σ H
theorem DK(i:Nat)(tb:TS)(D:gd)(σ:St)(H:Hp):B8 i tb D σ H=tb D σ H:=rfl
def Bz(i:Nat)(tb:TS)(tr:Value->Option Addr->TS)(cls:Value)(d:Option Addr)(D:gd)(σ:St)(H:Hp):Bool->Prop:=λ b=>if b=true then ∀ (e:Addr) (oe:Obj),H e=none->oe.cls=cls->oe.dict=d->(∃ vs,oe.data=.fields vs)->cQ i (.ref e) σ (upd H e (qo oe)) (B8 i tb (D.del i)) else tr cls d D σ H
theorem zI(i:Nat)(tb:TS)(tr:Value->Option Addr->TS)(cls:Value)(d:Option Addr)(D:gd)(σ:St)(H:Hp)(b:Bool):Bz i tb tr cls d D σ H b=(if b=true then ∀ (e:Addr) (oe:Obj),H e=none->oe.cls=cls->oe.dict=d->(∃ vs,oe.data=.fields vs)->cQ i (.ref e) σ (upd H e (qo oe)) (B8 i tb (D.del i)) else tr cls d D σ H):=rfl
theorem zx(K:W.Frag)(C:Value)(i:Nat)(tb:TS)(tr:Value->Option Addr->TS)(cls:Value)(d:Option Addr)(D:gd)(σ:St)(H:Hp):Be K C i tb tr cls d D σ H=aV (W.exmOne K cls C) (Bz i tb tr cls d D σ H):=by
 refine propext ⟨λ ⟨b,e,h⟩=>?_,λ h=>?_⟩
 ·rw [e];exact h
 ·obtain⟨b,e,h⟩:=au h;exact⟨b,e,h⟩
theorem KH(i:Nat)(nx:St->Hp->Prop)(rt:VK)(bk ct:St->Hp->Prop):gd.del i ⟨nx,rt,bk,ct⟩=⟨EU i nx,rt,EU i bk,EU i ct⟩:=rfl
theorem oa(H:Hp):yL H none=True:=rfl
def Ji:Value->Option Addr
 | .ref C=>some C
 | _=>none
theorem yZ(C:Addr):Ji (.ref C)=some C:=rfl
def IZ:V->Option Value
 | .ref C=>some (.ref C)
 | .ty n=>some (.type n)
 | _=>none
theorem AQ(C:Addr):IZ (.ref C)=some (.ref C):=rfl
theorem EE(n:String):IZ (.ty n)=some (.type n):=rfl
def kE4(H:Hp)(Q:VK):Bool->Prop:=λ b=>Q (.bl b) H
theorem B5(H:Hp)(Q:VK)(b:Bool):kE4 H Q b=Q (.bl b) H:=rfl
def kE3(K:W.Frag)(C:Addr)(H:Hp)(Q:VK):Value->Prop:=λ u=>aV (W.kitOne K (.ref C) u) (kE4 H Q)
theorem Kz(K:W.Frag)(C:Addr)(H:Hp)(Q:VK)(u:Value):kE3 K C H Q u=aV (W.kitOne K (.ref C) u) (kE4 H Q):=rfl
def kE2(K:W.Frag)(oe:Obj)(D:V)(H:Hp)(Q:VK):Addr->Prop:=λ C=>yL H oe.dict/\(∃ vs,oe.data=.fields vs)/\uv K C/\aV (IZ D) (kE3 K C H Q)
theorem KA(K:W.Frag)(oe:Obj)(D:V)(H:Hp)(Q:VK)(C:Addr):kE2 K oe D H Q C=(yL H oe.dict/\(∃ vs,oe.data=.fields vs)/\uv K C/\aV (IZ D) (kE3 K C H Q)):=rfl
def kE1(K:W.Frag)(D:V)(H:Hp)(Q:VK):HO->Prop:=λ o=>match o with
 | .frz oe (.ext _)=>aV (Ji oe.cls) (kE2 K oe D H Q)
 | _=>False
theorem KC(K:W.Frag)(D:V)(H:Hp)(Q:VK)(oe:Obj):kE1 K D H Q (qo oe)=aV (Ji oe.cls) (kE2 K oe D H Q):=rfl
def IL(K:W.Frag)(xs:List V)(H:Hp)(Q:VK):Prop:=match xs with
 | [.ref e,D]=>aV (H e) (kE1 K D H Q)
 | _=>False
theorem Hn(K:W.Frag)(e:Addr)(D:V)(H:Hp)(Q:VK):IL K [.ref e,D] H Q=aV (H e) (kE1 K D H Q):=rfl
theorem xS{X:Cx}:bD X (.builtin "isinstance") (IL X.K):=by
 refine xW.mono λ xs H Q h=>?_;unfold IL at h;split at h
 ·rename_i e D;obtain⟨o,h1,h⟩:=au h;unfold kE1 at h;split at h
  ·rename_i oe φ;obtain⟨C,h2,h⟩:=au h;obtain⟨h3,h4,h5,h⟩:=h;obtain⟨u,h6,h⟩:=au h;obtain⟨b,h7,h⟩:=au h
   have hc:oe.cls=.ref C:=by
    cases q:oe.cls with
    | ref C'=>rw [q] at h2;cases h2;rfl
    | _=>rw [q] at h2;cases h2
   refine⟨e,oe,C,D,b,rfl,⟨_,h1⟩,hc,h3,h4,h5,⟨u,?_,h7⟩,h⟩
   cases D with
   | ref a=>cases h6;rfl
   | ty n=>cases h6;rfl
   | _=>cases h6
  ·exact h.elim
 ·exact h.elim
def kC3(D:Addr)(ys:List V)(N:List V->Hp->Prop):VK:=λ y H=>H D=some (.lst ys)/\ys.length < sizeLine/\N (ys++[y]) (upd H D (.lst (ys++[y])))
def kC2(te:TE)(σ2:St)(D:Addr)(ys:List V)(N:List V->Hp->Prop):Bool->Hp->Prop:=λ b H=>if b=true then te σ2 H (kC3 D ys N) else N ys H
def kC1(k:Nat)(tt:TT)(te:TE)(σ:St)(D:Addr)(ys:List V)(N:List V->Hp->Prop):St->Hp->Prop:=λ σ2 H=>(∃ vs:St,vs.length=k/\σ2=vs++σ)/\tt σ2 H (kC2 te σ2 D ys N)
theorem GH(σ:St)(H:Hp)(Q:Bool->Hp->Prop):K1 σ H Q=Q true H:=rfl
def yF(k:Nat)(g:TG)(tt:TT)(te:TE)(σ:St)(Q:VK):It->Hp->Prop:=λ J H1=>∀ D,H1 D=none->∃ W:Nat->Nat->List V->Hp->Prop,(∃ m,W 0 m [] (upd H1 D (.lst [])))/\∀ i m ys H,W i m ys H →
 (J.stop i H/\Q (.ref D) H)\/(J.go i H/\∃ N:List V->Hp->Prop,(∀ ys' H',N ys' H'->∃ m',m' < m/\W (i+1) m' ys' H') /\
  ∀ x H',J.yld i H x H'->g x (List.replicate k none++σ) H' (kC1 k tt te σ D ys N))
theorem Dp(k:Nat)(wi:TI)(g:TG)(tt:TT)(te:TE)(σ:St)(H:Hp)(Q:VK):BP k wi g tt te σ H Q=wi σ H (yF k g tt te σ Q):=rfl
def FG(i:Nat)(σ:St)(nx:St->Hp->Prop):VK:=λ x H=>cQ i x σ H nx
theorem DM(i:Nat)(σ:St)(nx:St->Hp->Prop)(x:V)(H:Hp):FG i σ nx x H=cQ i x σ H nx:=rfl
theorem Di(i:Nat)(te:TE)(nx:St->Hp->Prop)(rt:VK)(bk ct:St->Hp->Prop)(σ:St)(H:Hp):Fg i te ⟨nx,rt,bk,ct⟩ σ H=te σ H (FG i σ nx):=rfl
section
variable {k:Nat}{g:TG}{tt:TT}{te:TE}{σ:St}{Q:VK}{H:Hp}{K:PySem.W.Frag}
end
def aI{α:Type}:List (Option α)->Option (List α)
 | []=>some []
 | o::r=>o.bind λ x=>(aI r).map λ xs=>x::xs
def oH(f:V->Option PyData):HO->Option PyData
 | .lst xs=>(aI (xs.map f)).map .list
 | .tup xs=>(aI (xs.map f)).map .tuple
 | _=>none
def bp(H:Hp)(f:V->Option PyData):V->Option PyData
 | .non=>some .none
 | .bl b=>some (.bool b)
 | .int i=>some (.int i)
 | .str z=>if PyData.strOk z=true then some (.str z) else none
 | .ref p=>(H p).bind (oH f)
 | _=>none
def fJ(H:Hp):Nat->V->Option PyData
 | 0,_=>none
 | n+1,x=>bp H (fJ H n) x
def noD:V->Option PyData:=λ _=>none
theorem ve(H:Hp)(x:V):fJ H 6 x=bp H (bp H (bp H (bp H (bp H (bp H noD))))) x:=rfl
theorem tE(H:Hp)(n:Nat)(z:Str):fJ H (n+1) (.str z)=if PyData.strOk z=true then some (.str z) else none:=rfl
theorem tF(H:Hp)(n:Nat)(p:Addr):fJ H (n+1) (.ref p)=(H p).bind (oH (fJ H n)):=rfl
theorem jT(H:Hp)(f:V->Option PyData)(i:Int):bp H f (.int i)=some (.int i):=rfl
theorem jS(H:Hp)(f:V->Option PyData)(z:Str):bp H f (.str z)=if PyData.strOk z=true then some (.str z) else none:=rfl
theorem fz(H:Hp)(f:V->Option PyData)(p:Addr):bp H f (.ref p)=(H p).bind (oH f):=rfl
theorem gO(f:V->Option PyData)(xs:List V):oH f (.lst xs)=(aI (xs.map f)).map .list:=rfl
theorem fy(f:V->Option PyData)(xs:List V):oH f (.tup xs)=(aI (xs.map f)).map .tuple:=rfl
theorem me{α:Type}:aI ([]:List (Option α))=some []:=rfl
theorem bt{α:Type}(x:α)(r:List (Option α)):aI (some x::r)=(aI r).map λ xs=>x::xs:=rfl
theorem dv(H:Hp)(f:V->Option PyData):∀ ns:List Int,aI ((ns.map V.int).map (bp H f))=some (ns.map PyData.int)
 | []=>rfl
 | i::r=>by
  show (aI ((r.map V.int).map (bp H f))).map _=_
  rw [dv H f r];rfl
theorem lF{K:W.Frag}{H:Hp}{n:Nat}(ih:∀ x d,fJ H n x=some d->kh K H x d/\d.canLay0=true/\d.depth<=n):∀ (xs:List V) (ds:List PyData),aI (xs.map (fJ H n))=some ds->iG K H xs ds/\PyData.canLayAll0 ds=true/\PyData.depthAll ds<=n
 | [],ds,h=>by cases h;exact⟨.nil,rfl,Np _⟩
 | x::xs,ds,h=>by
  have h':(fJ H n x).bind (λ d=>(aI (xs.map (fJ H n))).map λ ds=>d::ds)=some ds:=h
  cases e:fJ H n x with
  | none=>rw [e] at h';cases h'
  | some d=>
   rw [e] at h';have h2:(aI (xs.map (fJ H n))).map (λ ds=>d::ds)=some ds:=h'
   cases e2:aI (xs.map (fJ H n)) with
   | none=>rw [e2] at h2;cases h2
   | some es=>
    rw [e2] at h2;cases h2;obtain⟨a,b,c⟩:=ih x d e;obtain⟨a',b',c'⟩:=lF ih xs es e2;exact⟨.cons a a',by simp [PyData.canLayAll0,b,b'],by simp only [PyData.depthAll];omega⟩
theorem iR{K:W.Frag}{H:Hp}:∀ (n:Nat) (x:V) (d:PyData),fJ H n x=some d->kh K H x d/\d.canLay0=true/\d.depth<=n
 | 0,x,d,h=>by cases h
 | n+1,x,d,h=>by
  cases x with
  | non=>cases h;exact⟨.non,rfl,Np _⟩
  | bl b=>cases h;exact⟨.bl b,rfl,Np _⟩
  | int i=>cases h;exact⟨.int i,rfl,Np _⟩
  | str z=>
   rw [tE] at h;split at h
   ·rename_i hz;cases h;exact⟨.str z,by simpa [PyData.canLay0] using hz,Np _⟩
   ·cases h
  | ref p=>
   rw [tF] at h
   cases e:H p with
   | none=>rw [e] at h;cases h
   | some o=>
    rw [e] at h;have h':oH (fJ H n) o=some d:=h
    cases o with
    | lst xs=>
     rw [gO] at h'
     cases e2:aI (xs.map (fJ H n)) with
     | none=>rw [e2] at h';cases h'
     | some ds=>
      rw [e2] at h';cases h';obtain⟨a,b,c⟩:=lF (K:=K) (iR n) xs ds e2;exact⟨.lst (SqL.of e) a,by simpa [PyData.canLay0] using b,by simp only [PyData.depth];omega⟩
    | tup xs=>
     rw [fy] at h'
     cases e2:aI (xs.map (fJ H n)) with
     | none=>rw [e2] at h';cases h'
     | some ds=>
      rw [e2] at h';cases h';obtain⟨a,b,c⟩:=lF (K:=K) (iR n) xs ds e2;exact⟨.tup (SqT.of e) a,by simpa [PyData.canLay0] using b,by simp only [PyData.depth];omega⟩
    | _=>cases h'
  | _=>cases h
theorem eB{K:W.Frag}{H:Hp}{n:Nat}{x:V}{d:PyData}(hn:n<=64)(h:fJ H n x=some d):kh K H x d/\SeqAt.shaped d=true:=by
 obtain⟨a,b,c⟩:=iR (K:=K) n x d h;refine⟨a,?_⟩;unfold SeqAt.shaped;rw [b,decide_eq_true (show d.depth<=64 by omega)];rfl
def IV(neg:Bool)(H:Hp)(Q:VK)(d:PyData):PyData->Prop:=λ e=>Q (.bl (if neg=true then !PyData.eqv d e else PyData.eqv d e)) H
theorem zJ(H:Hp)(Q:VK)(d e:PyData):IV true H Q d e=Q (.bl (!PyData.eqv d e)) H:=rfl
theorem zK(H:Hp)(Q:VK)(d e:PyData):IV false H Q d e=Q (.bl (PyData.eqv d e)) H:=rfl
def JC(neg:Bool)(y:V)(H:Hp)(Q:VK):PyData->Prop:=λ d=>aV (fJ H 6 y) (IV neg H Q d)
theorem HP(neg:Bool)(y:V)(H:Hp)(Q:VK)(d:PyData):JC neg y H Q d=aV (fJ H 6 y) (IV neg H Q d):=rfl
def qEq(neg:Bool):R2:=λ x y H Q=>if E4 x y=true then Q (.bl (if neg=true then !decide (x=y) else decide (x=y))) H else aV (fJ H 6 x) (JC neg y H Q)
theorem tw(neg:Bool)(p:Addr)(x:V)(H:Hp)(Q:VK):qEq neg x (.ref p) H Q=aV (fJ H 6 x) (JC neg (.ref p) H Q):=by
 show (if E4 x (.ref p)=true then _ else _)=_
 rw [MH (by cases x<;>exact MQ)]
theorem ma(i:Int)(j:Int)(H:Hp)(Q:VK):qEq false (V.int i) (V.int j) H Q=Q (.bl (decide (i=j))) H:=by
 have e:decide (((V.int i):V)=(V.int j))=decide (i=j):=by simp
 show Q (.bl (if false=true then !decide ((V.int i)=(V.int j)) else decide ((V.int i)=(V.int j)))) H=_
 rw [e];rfl
theorem lZ(i:Int)(j:Int)(H:Hp)(Q:VK):qEq true (V.int i) (V.int j) H Q=Q (.bl (!decide (i=j))) H:=by
 have e:decide (((V.int i):V)=(V.int j))=decide (i=j):=by simp
 show Q (.bl (if true=true then !decide ((V.int i)=(V.int j)) else decide ((V.int i)=(V.int j)))) H=_
 rw [e];rfl
theorem p3(i:Bool)(j:Bool)(H:Hp)(Q:VK):qEq false (V.bl i) (V.bl j) H Q=Q (.bl (decide (i=j))) H:=by
 have e:decide (((V.bl i):V)=(V.bl j))=decide (i=j):=by simp
 show Q (.bl (if false=true then !decide ((V.bl i)=(V.bl j)) else decide ((V.bl i)=(V.bl j)))) H=_
 rw [e];rfl
theorem l0(i:Str)(j:Str)(H:Hp)(Q:VK):qEq false (V.str i) (V.str j) H Q=Q (.bl (decide (i=j))) H:=by
 have e:decide (((V.str i):V)=(V.str j))=decide (i=j):=by simp
 show Q (.bl (if false=true then !decide ((V.str i)=(V.str j)) else decide ((V.str i)=(V.str j)))) H=_
 rw [e];rfl
theorem lY(i:Str)(j:Str)(H:Hp)(Q:VK):qEq true (V.str i) (V.str j) H Q=Q (.bl (!decide (i=j))) H:=by
 have e:decide (((V.str i):V)=(V.str j))=decide (i=j):=by simp
 show Q (.bl (if true=true then !decide ((V.str i)=(V.str j)) else decide ((V.str i)=(V.str j)))) H=_
 rw [e];rfl
section
variable {X:Cx}
theorem bG(hu:X.A.units+64 < cLine):OpR X (compareOp .Eq) (qEq false):=by
 refine(J5.or (GC hu)).mono λ x y H Q h=>?_;unfold qEq at h;split at h
 ·rename_i hs;exact .inl ⟨hs,h⟩
 obtain⟨d,e1,h⟩:=au h;obtain⟨e,e2,h⟩:=au h;obtain⟨a,b⟩:=eB (K:=X.K) (by decide) e1;obtain⟨a',b'⟩:=eB (K:=X.K) (by decide) e2;exact .inr ⟨d,e,a,a',b,b',h⟩
theorem bN(hu:X.A.units+64 < cLine):OpR X (compareOp .NotEq) (qEq true):=by
 refine(J1.or (Gz hu)).mono λ x y H Q h=>?_;unfold qEq at h;split at h
 ·rename_i hs;exact .inl ⟨hs,h⟩
 obtain⟨d,e1,h⟩:=au h;obtain⟨e,e2,h⟩:=au h;obtain⟨a,b⟩:=eB (K:=X.K) (by decide) e1;obtain⟨a',b'⟩:=eB (K:=X.K) (by decide) e2;exact .inr ⟨d,e,a,a',b,b',h⟩
end
theorem vV(i j:Int):PyData.eqv (.int i) (.int j)=decide (i=j):=Bool.beq_eq_decide_eq i j
theorem fP(i j:Str):PyData.eqv (.str i) (.str j)=(i == j):=rfl
theorem cT(xs ys:List PyData):PyData.eqv (.tuple xs) (.tuple ys)=PyData.eqvAll xs ys:=by simp only [PyData.eqv]
theorem rE(xs ys:List PyData):PyData.eqv (.list xs) (.list ys)=PyData.eqvAll xs ys:=by simp only [PyData.eqv]
theorem cj:PyData.eqvAll [] []=true:=by simp only [PyData.eqvAll]
theorem aL(x y:PyData)(xs ys:List PyData):PyData.eqvAll (x::xs) (y::ys)=(PyData.eqv x y && PyData.eqvAll xs ys):=by simp only [PyData.eqvAll]
theorem rF(x:PyData)(xs:List PyData):PyData.eqvAll (x::xs) []=false:=by simp only [PyData.eqvAll]
theorem AG(x:PyData)(xs:List PyData):PyData.eqvAll [] (x::xs)=false:=by simp only [PyData.eqvAll]
theorem fZ:∀ ns ms:List Int,PyData.eqvAll (ns.map PyData.int) (ms.map PyData.int)=decide (ns=ms)
 | [],[]=>by rw [map_nil,cj];rfl
 | [],_::_=>by rw [map_nil,Nf,AG];rfl
 | _::_,[]=>by rw [map_nil,Nf,rF];rfl
 | i::r,j::t=>by
  rw [Nf,Nf,aL,vV,fZ r t]
  by_cases h:i=j<;>by_cases h2:r=t<;>simp [h,h2]
theorem EO(i j:Int):JS i j=(0 < j/\j < 1073741824):=rfl
theorem IH(i j:Int)(h:-18446744073709551616 < i)(h':i < 18446744073709551616):iE i j=True:=eq_true (.inl ⟨by omega,by omega⟩)
theorem IG(i j:Int)(h:-18446744073709551616 < j)(h':j < 18446744073709551616):iE i j=True:=eq_true (.inr ⟨by omega,by omega⟩)
theorem EN(j:Int):JR 10 j=(0<=j/\j<=1000000):=propext ⟨λ h=>⟨h.1,h.2.1⟩,λ h=>⟨h.1,h.2,by decide⟩⟩
theorem KI(n:Nat)(h:n<=1000):(n<=sizeLine)=True:=eq_true (OJ (wx h))
theorem Ext.of{H H':Hp}(h:∀ a,(H a).isSome=true->H' a=H a):Ext H H':=⟨h,λ K a xs q=>by
 have s:mr H H':=λ b o e=>(h b (by rw [e];rfl)).trans e;exact s.seq q⟩
theorem Ext.same{H H':Hp}(h:Ext H H'):mr H H':=λ b o e=>(h.1 b (by rw [e];rfl)).trans e
theorem mr.ext{H H':Hp}(h:mr H H'):Ext H H':=Ext.of λ a q=>by
 cases e:H a with
 | none=>rw [e] at q;cases q
 | some o=>exact h a o e
theorem Ext.refl(H:Hp):Ext H H:=(mr.refl H).ext
theorem Ext.trans{H H1 H2:Hp}(a:Ext H H1)(b:Ext H1 H2):Ext H H2:=(a.same.trans b.same).ext
theorem Ext.new{H:Hp}{p:Addr}{o:HO}(h:H p=none):Ext H (upd H p o):=(yX h).ext
theorem Ext.put{H H1:Hp}{p:Addr}{o:HO}(a:Ext H H1)(h:H p=none):Ext H (upd H1 p o):=mr.ext λ b u e=>by
 rw [ai (bR e h)];exact a.same b u e
theorem Ext.free{H H1:Hp}{p:Addr}(a:Ext H H1)(h:H1 p=none):H p=none:=a.same.free h
theorem Ext.at{H H1:Hp}{p:Addr}{o:HO}(a:Ext H H1)(h:H p=some o):H1 p=some o:=a.same _ _ h
theorem CW{xs:List V}{i:Int}{k:V->Prop}(h0:0<=i)(h1:i < xs.length)(h:∀ v∈xs,k v):aV (atI xs i) k:=by
 obtain⟨v,e,m⟩:=BE xs i h0 h1;rw [e];exact h v m
theorem Mn(CX:CXT)(P:Program)(w:World)(K:W.Frag)(mg:Str->Option Value)(base:Heap)(N:List Str)(qual:Str)(scope:Scope)(f:Addr)(cd:Value)(A:Around)(outer:List Env)(s:Shared)(H:Hp)(E:XK):(yp CX P w K mg base N qual scope f cd A outer s H E).K=K:=rfl
theorem dX{X:Cx}{K:W.Frag}(h:X.K=K):bD X (.builtin "isinstance") (IL K):=h ▸ xS
theorem rK{K:W.Frag}{C:Addr}(h:W.hasDictIn K C=true):(W.clsIn K C).isSome=true:=by
 obtain⟨cd,hc,_⟩:=W.any_some h;rw [hc];rfl
theorem vM{K:W.Frag}{A C:Addr}(h1:W.hasDictIn K C=true)(h2:W.typeIn K (.ref C)=some (.type "type"))(h3:W.subIn K (.ref A) (.ref C)=some true):W.kitOne K (.ref A) (.ref C)=some true:=by
 unfold W.kitOne;split
 ·rfl
 ·show (if _ then _ else _)=_
  rw [rK h1,h2,MI (by decide),h3]
theorem qD{K:W.Frag}{A C:Addr}(h0:(A == C)=false)(h1:W.hasDictIn K C=true)(h2:W.typeIn K (.ref C)=some (.type "type"))(h3:W.subIn K (.ref A) (.ref C)=some false):W.kitOne K (.ref A) (.ref C)=some false:=by
 unfold W.kitOne;rw [if_neg (by intro z;have e:A=C:=Value.ref.inj (beq_iff_eq.mp z);rw [e] at h0;simp at h0)]
 show (if _ then _ else _)=_
 rw [rK h1,h2,MI (by decide),h3]
theorem Bv{K:W.Frag}{A:Addr}{n:String}{b:Bool}(h1:W.kitMeta n=true)(h3:W.subIn K (.ref A) (.type n)=some b):W.kitOne K (.ref A) (.type n)=some b:=by
 unfold W.kitOne;rw [if_neg (by intro z;have e:=beq_iff_eq.mp z;cases e)]
 show (if _ then _ else _)=_
 rw [MI h1,h3]
def isW(H:Hp):V->Option Bool
 | .int _=>some true
 | .bl _=>some false
 | .non=>some false
 | .str _=>some false
 | .ref p=>((H p).bind tyO).map λ _=>false
 | _=>none
theorem Ap(H:Hp)(i:Int):isW H (.int i)=some true:=rfl
theorem El(H:Hp)(i:Bool):isW H (.bl i)=some false:=rfl
theorem Ao(H:Hp):isW H .non=some false:=rfl
theorem An(H:Hp)(i:Str):isW H (.str i)=some false:=rfl
theorem rl(H:Hp)(p:Addr):isW H (.ref p)=((H p).bind tyO).map λ _=>false:=rfl
theorem vP{H:Hp}{p:Addr}{b:Bool}(h:isW H (.ref p)=some b):b=false/\∃ o,H p=some o/\(tyO o=some "list" \/ tyO o=some "tuple" \/ tyO o=some "dict"):=by
 rw [rl] at h
 cases e:H p with
 | none=>rw [e] at h;cases h
 | some o=>
  rw [e] at h;have h':(tyO o).map (λ _=>false)=some b:=h
  cases e2:tyO o with
  | none=>rw [e2] at h';cases h'
  | some t=>
   rw [e2] at h';cases h';refine⟨rfl,o,rfl,?_⟩
   cases o with
   | lst xs=>exact .inl rfl
   | tup xs=>exact .inr (.inl rfl)
   | dK xs=>exact .inr (.inr rfl)
   | dT xs=>exact .inr (.inr rfl)
   | frz ob u=>cases u with
    | lst xs=>exact .inl rfl
    | _=>cases e2
   | _=>cases e2
def ME(t:TE):Prop:=∀ σ H (Q Q':VK),(∀ v H,Q v H->Q' v H)->t σ H Q->t σ H Q'
def MT(t:TT):Prop:=∀ σ H (Q Q':Bool->Hp->Prop),(∀ b H,Q b H->Q' b H)->t σ H Q->t σ H Q'
def MA(t:TA):Prop:=∀ σ H (Q Q':List V->Hp->Prop),(∀ b H,Q b H->Q' b H)->t σ H Q->t σ H Q'
def MR(r:R2):Prop:=∀ x y H (Q Q':VK),(∀ v H,Q v H->Q' v H)->r x y H Q->r x y H Q'
def MC(r:List V->Hp->VK->Prop):Prop:=∀ x H (Q Q':VK),(∀ v H,Q v H->Q' v H)->r x H Q->r x H Q'
theorem cw{α:Type}{o:Option α}{k k':α->Prop}(m:∀ x,k x->k' x)(h:aV o k):aV o k':=by
 obtain⟨x,e,q⟩:=au h;rw [e];exact m x q
theorem qA{i:Nat}:ME (II i):=λ σ H Q Q' m ⟨v,e,q⟩=>⟨v,e,m _ _ q⟩
theorem Jr{v:V}:ME (tC v):=λ σ H Q Q' m q=>m _ _ q
theorem B3{r:R2}{a b:TE}(hr:MR r)(ha:ME a)(hb:ME b):ME (tOp r a b):=λ σ H Q Q' m q=>ha σ H _ _ (λ _ _ q=>hb σ _ _ _ (λ _ _ q=>hr _ _ _ _ _ m q) q) q
theorem qB{g:Int->Int->V}:MR (rI0 g):=λ x y H Q Q' m ⟨i,j,e,e',q⟩=>⟨i,j,e,e',m _ _ q⟩
theorem va{n:Bool}:MR (qEq n):=λ x y H Q Q' m q=>by
 unfold qEq at q ⊢
 by_cases hs:E4 x y=true
 ·rw [MI hs] at q ⊢;exact m _ _ q
 ·rw [MH hs] at q ⊢;exact cw (λ _ q=>cw (λ _ q=>m _ _ q) q) q
theorem vc:MA E3:=λ σ H Q Q' m q=>m _ _ q
theorem pH{a:TE}{r:TA}(ha:ME a)(hr:MA r):MA (ux a r):=λ σ H Q Q' m q=>ha σ H _ _ (λ _ _ q=>hr σ _ _ _ (λ _ _ q=>m _ _ q) q) q
theorem B4{r:List V->Hp->VK->Prop}{t:TA}(hr:MC r)(ht:MA t):ME (tCB r t):=λ σ H Q Q' m q=>ht σ H _ _ (λ _ _ q=>hr _ _ _ _ m q) q
theorem pG:MC E5:=λ x H Q Q' m q=>by
 unfold E5 at q ⊢;split at q
 ·exact cw (λ _ q=>m _ _ q) q
 ·exact⟨q.1,m _ _ q.2⟩
 ·exact q.elim
theorem kF{t:TE}(h:ME t):MT (yy t):=λ σ H Q Q' m q=>h σ H _ _ (λ _ _ ⟨k,e,q⟩=>⟨k,e,m _ _ q⟩) q
theorem oQ{c:TT}{tb:TS}{nx:St->Hp->Prop}{rt:VK}{bk ct:St->Hp->Prop}{σ:St}{H:Hp}(mono:MT c)(Pv:Nat->St->Hp->Prop)(m0:Nat)(h0:Pv m0 σ H)
  (hs:∀ m σ H,Pv m σ H->c σ H (kWh tb nx rt Pv m σ)):uK c tb ⟨nx,rt,bk,ct⟩ σ H:=Ck Pv m0 h0 (λ σ H Q Q'=>mono σ H Q Q') hs
theorem rm:∀ {ns ms:List Int},ns.map V.int=ms.map V.int->ns=ms
 | [],[],_=>rfl
 | [],_::_,h=>by cases h
 | _::_,[],h=>by cases h
 | i::r,j::t,h=>by
  simp only [Nf,List.cons.injEq,V.int.injEq] at h;rw [h.1,rm h.2]
def Cd(F:List Int->Prop):List V->Prop:=λ xs=>∃ ns,xs=ns.map V.int/\F ns
theorem DW(F:List Int->Prop)(ns:List Int):Cd F (ns.map V.int)=F ns:=propext ⟨λ ⟨ms,e,h⟩=>by rw [rm e];exact h,λ h=>⟨ns,rfl,h⟩⟩
theorem lG(xs:List V)(z:Int)(h:0<=z):kg xs none (some z)=xs.take z.toNat:=by
 unfold kg;rw [HT.sIx_none,List.drop_zero,Nat.sub_zero];obtain⟨n,rfl⟩:=Int.eq_ofNat_of_zero_le h;rw [HT.sIx_nat]
 show _=xs.take n
 rcases Px n xs.length with q|q
 ·rw [Pa q]
 ·rw [OZ q,NC (MG _),NC q]
def Mi(lo hi:Option Int)(H:Hp)(Q:VK):List V->Prop:=λ xs=>∀ p,H p=none->Q (.ref p) (upd H p (.lst (kg xs lo hi)))
def Lh:V->Option Int->Option Int->Hp->VK->Prop:=λ x lo hi H Q=>match x with
 | .ref a=>aV (aQ H a) (Mi lo hi H Q)
 | _=>False
theorem L4{X:Cx}:SlR X Lh:=Cy.mono λ x lo hi H Q h=>by
 unfold Lh at h;split at h
 ·rename_i a;obtain⟨xs,e,q⟩:=au h;exact⟨a,xs,rfl,SqL.of (dh e),q⟩
 ·exact h.elim
def Ju(r:V->Option Int->Option Int->Hp->VK->Prop)(x:V)(l:Option Int)(Q:VK):Option Int->Hp->Prop:=λ u H=>r x l u H Q
theorem Hu(r:V->Option Int->Option Int->Hp->VK->Prop)(x:V)(l:Option Int)(Q:VK)(u:Option Int)(H:Hp):Ju r x l Q u H=r x l u H Q:=rfl
def Jv(r:V->Option Int->Option Int->Hp->VK->Prop)(th:TO)(σ:St)(x:V)(Q:VK):Option Int->Hp->Prop:=λ l H=>th σ H (Ju r x l Q)
theorem Hv(r:V->Option Int->Option Int->Hp->VK->Prop)(th:TO)(σ:St)(x:V)(Q:VK)(l:Option Int)(H:Hp):Jv r th σ x Q l H=th σ H (Ju r x l Q):=rfl
def Lp(r:V->Option Int->Option Int->Hp->VK->Prop)(tl th:TO)(σ:St)(Q:VK):VK:=λ x H=>tl σ H (Jv r th σ x Q)
theorem Hw(r:V->Option Int->Option Int->Hp->VK->Prop)(tl th:TO)(σ:St)(Q:VK)(x:V)(H:Hp):Lp r tl th σ Q x H=tl σ H (Jv r th σ x Q):=rfl
theorem Kd(r:V->Option Int->Option Int->Hp->VK->Prop)(te:TE)(tl th:TO)(σ:St)(H:Hp)(Q:VK):tSl r te tl th σ H Q=te σ H (Lp r tl th σ Q):=rfl
theorem wI(σ:St)(H:Hp)(Q:Option Int->Hp->Prop):vq σ H Q=Q none H:=rfl
def FH(Q:Option Int->Hp->Prop):VK:=λ x H=>∃ i,x=.int i/\Q (some i) H
theorem DR(Q:Option Int->Hp->Prop)(i:Int)(H:Hp):FH Q (.int i) H=Q (some i) H:=propext ⟨λ ⟨_,e,q⟩=>by cases e;exact q,λ q=>⟨i,rfl,q⟩⟩
theorem Dj(t:TE)(σ:St)(H:Hp)(Q:Option Int->Hp->Prop):Fh t σ H Q=t σ H (FH Q):=rfl
def jC(o:HO)(H:Hp)(Q:VK):Prop:=∀ (p:Addr) (H':Hp),H p=none->Ext H H'->H' p=some o->Q (.ref p) H'
theorem jC.to{o:HO}{H:Hp}{Q:VK}(h:jC o H Q):∀ p,H p=none->Q (.ref p) (upd H p o):=λ p hp=>h p _ hp (Ext.new hp) aj
def kQT(Q:VK):List V->Hp->Prop:=λ xs H=>xs.length<=sizeLine/\jC (.tup xs) H Q
theorem Kr(Q:VK)(xs:List V)(H:Hp):kQT Q xs H=(xs.length<=sizeLine/\jC (.tup xs) H Q):=rfl
def kQL(Q:VK):List V->Hp->Prop:=λ xs H=>xs.length<=sizeLine/\jC (.lst xs) H Q
theorem Ks(Q:VK)(xs:List V)(H:Hp):kQL Q xs H=(xs.length<=sizeLine/\jC (.lst xs) H Q):=rfl
def Lg(t:TA):TE:=λ σ H Q=>t σ H (kQT Q)
theorem Hh(t:TA)(σ:St)(H:Hp)(Q:VK):Lg t σ H Q=t σ H (kQT Q):=rfl
def Li(t:TA):TE:=λ σ H Q=>t σ H (kQL Q)
theorem Hl(t:TA)(σ:St)(H:Hp)(Q:VK):Li t σ H Q=t σ H (kQL Q):=rfl
section
variable {X:Cx}{es:List Expr}{t:TA}{pos:Pos}
theorem CM{x1}(h:PA X es t):PE X (.Tuple es x1 pos) (Lg t):=by
 intro pins s σ H Q I hq;refine wpAny_Tuple_spliced (thn (h pos pins s σ H _ I hq) λ us s1 ⟨xs,H1,I1,r,z,q⟩=>⟨by rw [←r.length];exact z,?_⟩);have hf:H1 s1.heap.objs.size=none:=I1.hok.fresh (MG _);refine⟨.ref s1.heap.objs.size,upd H1 s1.heap.objs.size (.tup xs),I1.laid (t':=s1.toks) (λ b u e=>Mz _ e) (MG _) ?_,rfl,q.to _ hf⟩;exact⟨z,us,r,⟨_,MO _ rfl,rfl,_,rfl⟩⟩
theorem CN(h:PA X es t):PE X (.List es pos) (Li t):=by
 intro pins s σ H Q I hq;refine wpAny_List_spliced (thn (h pos pins s σ H _ I hq) λ us s1 ⟨xs,H1,I1,r,z,q⟩=>⟨by rw [←r.length];exact z,?_⟩);have hf:H1 s1.heap.objs.size=none:=I1.hok.fresh (MG _);refine⟨.ref s1.heap.objs.size,upd H1 s1.heap.objs.size (.lst xs),I1.laid (t':=s1.toks) (λ b u e=>Mz _ e) (MG _) ?_,rfl,q.to _ hf⟩;exact⟨z,us,0,r,MO _ rfl⟩
end
def kN(f:List V->HO)(H:Hp)(Q:VK):List V->Prop:=λ ys=>jC (f ys) H Q
theorem Mf(f:List V->HO)(H:Hp)(Q:VK)(ys:List V):kN f H Q ys=jC (f ys) H Q:=rfl
def BZ(xs:List V)(H:Hp)(Q:VK):Prop:=match xs with
 | [.ref p]=>aV (dA H p) (kN .lst H Q)
 | _=>False
theorem DB(p:Addr)(H:Hp)(Q:VK):BZ [.ref p] H Q=aV (dA H p) (kN .lst H Q):=rfl
theorem dY{X:Cx}:bD X (.type "list") BZ:=tZ.mono λ xs H Q h=>by
 unfold BZ at h;split at h
 ·exact cw (λ _ q=>q.to) h
 ·exact h.elim
def kNT(p:Addr)(H:Hp)(Q:VK):HO->Prop:=λ o=>match o with
 | .lst ys=>jC (.tup ys) H Q
 | .tup _=>Q (.ref p) H
 | _=>False
theorem DT(p:Addr)(H:Hp)(Q:VK)(ys:List V):kNT p H Q (.lst ys)=jC (.tup ys) H Q:=rfl
def u7(xs:List V)(H:Hp)(Q:VK):Prop:=match xs with
 | [.ref p]=>aV (H p) (kNT p H Q)
 | _=>False
theorem zB(p:Addr)(H:Hp)(Q:VK):u7 [.ref p] H Q=aV (H p) (kNT p H Q):=rfl
theorem jn{X:Cx}:bD X (.type "tuple") u7:=p9.mono λ xs H Q h=>by
 unfold u7 at h;split at h
 ·refine cw (λ o q=>?_) h;unfold kNT at q;unfold B6;split at q
  ·exact q.to
  ·exact q
  ·exact q.elim
 ·exact h.elim
def IT(xs:List V)(H:Hp)(Q:VK):List V->Prop:=λ ys=>xs.length+ys.length<=sizeLine/\jC (.lst (xs++ys)) H Q
theorem HF(xs:List V)(H:Hp)(Q:VK)(ys:List V):IT xs H Q ys=(xs.length+ys.length<=sizeLine/\jC (.lst (xs++ys)) H Q):=rfl
def Jx(b:Addr)(H:Hp)(Q:VK):List V->Prop:=λ xs=>aV (aQ H b) (IT xs H Q)
theorem HG(b:Addr)(H:Hp)(Q:VK)(xs:List V):Jx b H Q xs=aV (aQ H b) (IT xs H Q):=rfl
def IP:R2:=λ x y H Q=>match x,y with
 | .ref l,.ref b=>aV (aQ H l) (Jx b H Q)
 | _,_=>False
theorem Bt(l b:Addr)(H:Hp)(Q:VK):IP (.ref l) (.ref b) H Q=aV (aQ H l) (Jx b H Q):=rfl
theorem gC{X:Cx}:OpR X (binaryOp .Add) IP:=GD.mono λ x y H Q h=>by
 unfold IP at h;split at h
 ·rw [Hg];exact cw (λ _ q=>cw (λ _ q=>⟨q.1,q.2.to⟩) q) h
 ·exact h.elim
def kNS(lo hi:Option Int)(H:Hp)(Q:VK):List V->Prop:=λ xs=>jC (.lst (kg xs lo hi)) H Q
theorem Kv(lo hi:Option Int)(H:Hp)(Q:VK)(xs:List V):kNS lo hi H Q xs=jC (.lst (kg xs lo hi)) H Q:=rfl
def nSl:V->Option Int->Option Int->Hp->VK->Prop:=λ x lo hi H Q=>match x with
 | .ref a=>aV (aQ H a) (kNS lo hi H Q)
 | _=>False
theorem Kl(a:Addr)(lo hi:Option Int)(H:Hp)(Q:VK):nSl (.ref a) lo hi H Q=aV (aQ H a) (kNS lo hi H Q):=rfl
theorem BK{X:Cx}:SlR X nSl:=L4.mono λ x lo hi H Q h=>by
 unfold nSl at h;split at h
 ·exact cw (λ _ q=>q.to) h
 ·exact h.elim
theorem PE.mono{X:Cx}{e:Expr}{t t':TE}(h:PE X e t)(m:∀ σ H Q,t' σ H Q->t σ H Q):PE X e t':=λ pins s σ H Q I q=>h pins s σ H Q I (m _ _ _ q)
def FE:TE:=λ _ H Q=>jC (.dK []) H Q
theorem DC(σ:St)(H:Hp)(Q:VK):FE σ H Q=jC (.dK []) H Q:=rfl
theorem fi{X:Cx}{pos:Pos}:PE X (.Dict [] [] pos) FE:=zh.mono λ _ _ _ h=>h.to
section
variable {prog:Program}{w:World}{A:Around}{E:Value->Shared->Prop}{s:Shared}
end
section
variable {X:Cx}{pos:Pos}
end
def Itv(K:W.Frag)(a:Addr)(xs:List V):It:=
 ⟨λ i H=>SqL K H a xs/\i < xs.length,λ i H x H'=>H'=H/\xs[xs.length - 1 - i]? = some x,λ i _=>i=xs.length⟩
theorem yS{P:Program}{w:World}{K:W.Frag}{tg:Expr}(a it:Addr)(xs:List V):yw P w K tg (Itv K a xs) [it] it (λ i h=>i<=xs.length/\h.IsRevIter it a ((xs.length:Int) - 1 - (i:Int))) where
 mem:=by simp
 obj:=λ i h st b hb=>by
  have e:b=it:=by simpa using hb
  subst e;obtain⟨_,o,e,c,d⟩:=st;exact⟨o,e,λ v z=>by rw [d] at z;cases z⟩
 keep:=λ i h h' st k=>⟨st.1,st.2.at λ o e=>k it (by simp) o e⟩
 item:=by
  intro X hP hw hK hc i pins s σ H E I hf st hg;subst hP hw hK;obtain⟨hq,hlt⟩:=hg;obtain⟨its,rv,p,hz⟩:=I.list hq;have hx:xs[xs.length - 1 - i]? = some (xs[xs.length - 1 - i]'(by omega)):=Mx (by omega);obtain⟨u,hu,ru⟩:=rv.get hx;obtain⟨f0,f1,f2,f3,f4,f5⟩:=hf it (by simp);have st1:=st.2;rw [show ((xs.length:Int) - 1 - (i:Int))=((xs.length - 1 - i:Nat):Int) by omega] at st1;refine wpAny_pyNext_rev_item st1 p.isList (x:=u) (by simpa using hu) λ h' st' sb=>?_;have I1:Inv X pins σ H { s with heap:=h' }:=I.turned (t':=s.toks) (λ b o hb e=>(sb.2 b hb).trans e) f0 f1 f3 f4 f5;obtain⟨o,e,c,d⟩:=id st';rw [show (((xs.length - 1 - i:Nat):Int) - 1)=(xs.length:Int) - 1 - ((i+1:Nat):Int) by omega] at st';exact⟨u,rfl,yJ (s:={ s with heap:=h' }) e c d (by decide) ⟨_,H,I1,ru,⟨rfl,hx⟩,⟨hlt,st'⟩,λ b hb=>(hf b hb).1⟩⟩
 done:=by
  intro X hP hw hK hc i pins s σ H E I hf st hg;subst hP hw hK;have e:i=xs.length:=hg;subst e;obtain⟨f0,f1,f2,f3,f4,f5⟩:=hf it (by simp);have st1:=st.2;rw [show ((xs.length:Int) - 1 - (xs.length:Int))=-1 by omega] at st1;exact wpAny_pyNext_rev_end (I.ok.hd hc) st1 λ h' eb=>⟨rfl,I.turned (t':=s.toks) (λ b o hb e=>eb b o hb e) f0 f1 f3 f4 f5⟩
 self:=λ _ _ _ _ _ st h=>wpAny_pyIter_revIter st.2 h
def Jw(K:W.Frag)(a:Addr)(H:Hp)(R:It->Hp->Prop):List V->Prop:=λ xs=>R (Itv K a xs) H
theorem Hy(K:W.Frag)(a:Addr)(H:Hp)(R:It->Hp->Prop)(xs:List V):Jw K a H R xs=R (Itv K a xs) H:=rfl
def IQ(K:W.Frag)(R:It->Hp->Prop):List V->Hp->Prop:=λ vs H=>match vs with
 | [.ref a]=>aV (aQ H a) (Jw K a H R)
 | _=>False
theorem Hz(K:W.Frag)(R:It->Hp->Prop)(a:Addr)(H:Hp):IQ K R [.ref a] H=aV (aQ H a) (Jw K a H R):=rfl
def LL(K:W.Frag)(ta:TA):TI:=λ σ H R=>ta σ H (IQ K R)
theorem Ik(K:W.Frag)(ta:TA)(σ:St)(H:Hp)(R:It->Hp->Prop):LL K ta σ H R=ta σ H (IQ K R):=rfl
section
variable {X:Cx}{tg:Expr}
theorem Gn{a:Expr}{ta:TA}{p pos:Pos}(hg:Gl X "reversed")(hm:X.mg "reversed"=none)(ha:PA X [a] ta)(hs:starEach [a] X.env=[(false,eval a X.env)]:=by rfl):PI X tg (.Call (.Name "reversed" p) [a] [] pos) (LL X.K ta):=by
 intro pins s σ H R I h;refine Call_ (gj I hg hm (show bootBuiltins "reversed"=some (.type "reversed") by decide +kernel) (PyProof.Rows.callWith_type1 (thn (ha pos pins s σ H _ I h) λ us s1 ⟨vs,H1,I1,r1,q1⟩=>?_) hs rfl));unfold IQ at q1;split at q1
 ·rename_i b;obtain⟨xs,e,q⟩:=au q1
  cases r1 with
  | cons r rr=>
   cases rr;cases r;obtain⟨its,rv,pl,hz⟩:=I1.list (SqL.of (dh e));refine call_reversed_list pl.isList ?_;have hsz:(its.toArray.size:Int)=(xs.length:Int):=by rw [←rv.length.symm];simp
   have I2:Inv X pins σ H1 { s1 with heap:=s1.heap.push (revObj b ((its.toArray.size:Int) - 1)) }:=I1.kept (t':=s1.toks) λ b o e=>Mz _ e;have hit:(s1.heap.push (revObj b ((its.toArray.size:Int) - 1))).IsRevIter s1.heap.objs.size b ((xs.length:Int) - 1 - ((0:Nat):Int)):=⟨_,MO _ rfl,rfl,by rw [hsz];simp [revObj]⟩;refine wpAny_pyIter_revIter hit ⟨s1.heap.objs.size,[s1.heap.objs.size],_,_,H1,rfl,I2,yS b _ xs,⟨Np _,hit⟩,λ c hb=>?_,q⟩;have e:c=s1.heap.objs.size:=by simpa using hb
   subst e;exact I1.fpOk (MG _) (I1.hok.fresh (MG _))
 ·exact q1.elim
end
theorem EC{K:W.Frag}{a:Addr}{xs:List V}{g:TG}{tb:TS}{nx:St->Hp->Prop}{rt:VK}{bk ct:St->Hp->Prop}{σ:St}{H:Hp}(Pv:Nat->St->Hp->Prop)(h0:Pv 0 σ H)(hl:∀ i σ H,i<=xs.length->Pv i σ H->SqL K H a xs)
  (hs:∀ i x σ H,i < xs.length->xs[xs.length - 1 - i]? = some x->Pv i σ H->g x σ H (sH tb ⟨Pv (i+1),rt,nx,Pv (i+1)⟩)) (hd:∀ σ H,Pv xs.length σ H->nx σ H):ET g tb ⟨nx,rt,bk,ct⟩ σ (Itv K a xs) H:=by
 refine⟨λ i m σ H=>m=xs.length - i/\i<=xs.length/\Pv i σ H,⟨xs.length,by simp,Np _,h0⟩,?_⟩;rintro i m σ H ⟨rfl,hi,p⟩;have q:=hl i σ H hi p
 by_cases hlt:i < xs.length
 ·refine .inr ⟨⟨q,hlt⟩,Pv (i+1),λ σ' H' p'=>⟨xs.length - (i+1),by omega,rfl,hlt,p'⟩,λ x H' y=>?_⟩;obtain⟨e,y⟩:=y;subst e;exact hs i x σ _ hlt y p
 ·have e:i=xs.length:=by omega
  subst e;exact .inl ⟨rfl,hd σ H p⟩
theorem ji:∀ (n:Nat) (ns:List Int) (val:Nat->Int),(∀ i,val i=ns.getD i 0)->n<=ns.length->preSum val n=(ns.take n).sum
 | 0,ns,val,h,hl=>by simp [preSum]
 | n+1,ns,val,h,hl=>by
  have ih:=ji n ns val h (by omega)
  have e:ns.take (n+1)=ns.take n++[ns.getD n 0]:=by
   rw [List.take_succ,Mx (by omega)];simp [List.getD,Mx (show n < ns.length by omega)]
  rw [preSum,ih,e,List.sum_append,h];simp
def B7(H:Hp)(Q:VK):List Int->Prop:=λ ns=>Q (.int ns.sum) H
theorem DI(H:Hp)(Q:VK)(ns:List Int):B7 H Q ns=Q (.int ns.sum) H:=rfl
def Jk:List V->Hp->VK->Prop:=λ vs H Q=>match vs with
 | [.ref p]=>aV (aQ H p) (Cd (B7 H Q))
 | _=>False
theorem Hi(p:Addr)(H:Hp)(Q:VK):Jk [.ref p] H Q=aV (aQ H p) (Cd (B7 H Q)):=rfl
def JK(F:List Bool->Prop):List V->Prop:=λ xs=>∃ bs,xs=bs.map V.bl/\F bs
theorem wc:∀ {ns ms:List Bool},ns.map V.bl=ms.map V.bl->ns=ms
 | [],[],_=>rfl
 | [],_::_,h=>by cases h
 | _::_,[],h=>by cases h
 | i::r,j::t,h=>by
  simp only [Nf,List.cons.injEq,V.bl.injEq] at h;rw [h.1,wc h.2]
theorem HY(F:List Bool->Prop)(bs:List Bool):JK F (bs.map V.bl)=F bs:=propext ⟨λ ⟨ms,e,h⟩=>by rw [wc e];exact h,λ h=>⟨bs,rfl,h⟩⟩
def Cg(H:Hp)(Q:VK):List Bool->Prop:=λ bs=>Q (.bl (bs.all id)) H
theorem Eb(H:Hp)(Q:VK)(bs:List Bool):Cg H Q bs=Q (.bl (bs.all id)) H:=rfl
def Jo:List V->Hp->VK->Prop:=λ vs H Q=>match vs with
 | [.ref p]=>aV (aQ H p) (JK (Cg H Q))
 | _=>False
theorem Ho(p:Addr)(H:Hp)(Q:VK):Jo [.ref p] H Q=aV (aQ H p) (JK (Cg H Q)):=rfl
section
variable {X:Cx}
theorem bZ(hc:X.calm=true):bD X (.builtin "sum") Jk:=by
 intro pins s σ H vs us Q I r h;unfold Jk at h;split at h
 ·rename_i p;obtain⟨xs,e,ns,rfl,q⟩:=au h
  cases r with
  | cons r rr=>
   cases rr;cases r;obtain⟨its,rv,pl,hz⟩:=I.list (SqL.of (dh e));have hlt:p < s.heap.objs.size:=by obtain⟨_,e,_⟩:=pl.isList;exact MJ e
   have hlen:its.length=ns.length:=by have:=rv.length;simpa using this.symm
   refine call_sum_walkAnyS (O5 pl.isList ⟨s.heap.objs.size,_,_,_,_,_,_,λ i=>ns.getD i 0,rfl,(Walks.list (show X.A.in1.handled=none from I.ok.hd hc) _ p (MS hlt) its.toArray).toS,⟨⟨_,MO _ rfl,rfl,rfl⟩,pl.isList.push _⟩,λ b hb=>?_,λ i v hP=>?_,λ s' t' hm=>?_⟩)
   ·rw [Nz]
    rcases MU.mp hb with rfl|hb
    ·exact Oa _
    ·rw [MV.mp hb];exact Pp hlt
   ·have hv:its[i]? = some v:=by simpa using hP
    have hi:i < ns.length:=by rw [←hlen];exact(MB.mp hv).1
    obtain⟨u,hu,ru⟩:=rv.get (i:=i) (x:=.int (ns.getD i 0)) (by rw [MZ,Mx hi];simp [List.getD,Mx hi]);rw [hv] at hu;cases hu;exact ru
   ·obtain⟨hp,g,d,tk,os⟩:=s'
    have kp:∀ b o,s.heap.get? b=some o->hp.get? b=some o:=λ b o e=>hm.heap b o (λ hmem=>by
     have:b=s.heap.objs.size:=by simpa using hmem
     subst this;exact absurd (MJ e) (NV _)) (Mz _ e)
    have e1:g=s.gens:=hm.gens;have e2:d=s.drawn:=hm.drawn;have e3:os=s.os:=hm.os;subst e1 e2 e3;refine⟨.int ns.sum,H,I.kept (t':=tk) kp,?_,q⟩;have es:=ji its.toArray.size ns (λ i=>ns.getD i 0) (λ _=>rfl) (by simp [hlen]);rw [show its.toArray.size=ns.length by simp [hlen],N2] at es;rw [show its.toArray.size=ns.length by simp [hlen],es];exact⟨t',rfl⟩
 ·exact h.elim
theorem ym(bs:List Bool):(List.range bs.length).all (λ i=>bs.getD i false)=bs.all id:=by
 rw [OE,PB,PB];refine⟨λ h x hx=>?_,λ h i hi=>?_⟩
 ·obtain⟨i,hi,e⟩:=List.getElem_of_mem hx;have:=h i (N8.mpr hi)
  simpa [List.getD,Mx hi,e] using this
 ·have hi':=N8.mp hi;have:=h (bs[i]) (Nx hi')
  simpa [List.getD,Mx hi'] using this
theorem xT(hc:X.calm=true):bD X (.builtin "all") Jo:=by
 intro pins s σ H vs us Q I r h;unfold Jo at h;split at h
 ·rename_i p;obtain⟨xs,e,bs,rfl,q⟩:=au h
  cases r with
  | cons r rr=>
   cases rr;cases r;obtain⟨its,rv,pl,hz⟩:=I.list (SqL.of (dh e));have hlt:p < s.heap.objs.size:=by obtain⟨_,e,_⟩:=pl.isList;exact MJ e
   have hlen:its.length=bs.length:=by have:=rv.length;simpa using this.symm
   refine call_all_walk (O5 pl.isList ⟨s.heap.objs.size,_,_,_,_,_,λ i=>bs.getD i false,rfl,Walks.list (show X.A.in1.handled=none from I.ok.hd hc) _ p (MS hlt) its.toArray,⟨⟨_,MO _ rfl,rfl,rfl⟩,pl.isList.push _⟩,λ i v s' Q' E' hP hQ=>?_,λ h' tk hk=>?_⟩)
   ·have hv:its[i]? = some v:=by simpa using hP
    have hi:i < bs.length:=by rw [←hlen];exact(MB.mp hv).1
    obtain⟨u,hu,ru⟩:=rv.get (i:=i) (x:=.bl (bs.getD i false)) (by rw [MZ,Mx hi];simp [List.getD,Mx hi]);rw [hv] at hu;cases hu;have e2:v=.bool (bs.getD i false):=ru;subst e2;exact Ny hQ
   ·have kp:∀ b o,s.heap.get? b=some o->h'.get? b=some o:=λ b o e=>hk b o (λ hmem=>by
     have:b=s.heap.objs.size:=by simpa using hmem
     subst this;exact absurd (MJ e) (NV _)) (Mz _ e)
    refine⟨.bl (bs.all id),H,I.kept (t':=tk) kp,?_,q⟩;rw [show its.toArray.size=bs.length by simp [hlen],ym];exact rfl
 ·exact h.elim
end
structure Src(prog:Program)(w:World)(it:Addr)(fr:List Addr)(st:Nat->Heap->Prop)(val:Nat->Option Value):Prop where
 mem:it∈fr
 there:∀ k h,st k h->∀ b∈fr,∃ o,h.get? b=some o
 keep:∀ k h h',st k h->(∀ b∈fr,∀ o,h.get? b=some o->h'.get? b=some o)->st k h'
 item:∀ (A:Around) k s v (Q:Value->Shared->Prop) (E:Value->Shared->Prop),st k s.heap->val k=some v->(∀ h',st (k+1) h'->Heap.SameBut it s.heap h'->Q v { s with heap:=h' })->wpAny (model prog w) A (Builtin.SmallTypes.nextOf (.ref it)) Q E s
 fin:∀ (A:Around) k s (Q:Value->Shared->Prop) (E:Value->Shared->Prop),A.handled=none->st k s.heap->val k=none->(∀ h' e,Heap.ExtBut it s.heap h'->(∃ o,h'.get? e=some o/\o.cls=.type "StopIteration")->E (.ref e) { s with heap:=h' })->wpAny (model prog w) A (Builtin.SmallTypes.nextOf (.ref it)) Q E s
theorem yU{prog:Program}{w:World}(it l:Addr)(hne:l ≠ it)(xs:Array Value):Src prog w it [it,l] (λ k h=>h.IsListIter it l k/\h.IsList l xs) (λ k=>xs[k]?) where
 mem:=MF
 there:=λ k h st b hb=>by
  rcases MU.mp hb with e|hb
  ·obtain⟨o,q,_⟩:=st.1;exact⟨o,by rw [e];exact q⟩
  ·obtain⟨o,q,_⟩:=st.2;exact⟨o,by rw [MV.mp hb];exact q⟩
 keep:=λ k h h' st q=>⟨st.1.at λ o e=>q it (by simp) o e,st.2.at λ o e=>q l (by simp) o e⟩
 item:=λ A k s v Q E st hv hQ=>wpAny_nextOf_list_item st.1 st.2 hv λ h' a b=>hQ h' ⟨a,st.2.extBut b.extBut hne⟩ b
 fin:=λ A k s Q E hh st hv hE=>wpAny_nextOf_list_end hh st.1 st.2 hv hE
section
variable {prog:Program}{w:World}{A:Around}{E:Value->Shared->Prop}{s:Shared}
theorem lX{j t:Addr}{k:Nat}{xs:Array Value}{v:Value}{Q:Value->Shared->Prop}(hj:s.heap.IsTupleIter j t k)(ht:s.heap.IsTuple t xs)(hv:xs[k]? = some v)
  (hQ:∀ g,g.IsTupleIter j t (k+1)->Heap.SameBut j s.heap g->Q v { s with heap:=g }):wpAny (model prog w) A (Builtin.SmallTypes.nextOf (.ref j)) Q E s:=by
 obtain⟨oj,h0,h1,h2⟩:=id hj;obtain⟨ot,g0,_,n,g1⟩:=ht;unfold Builtin.SmallTypes.nextOf;refine wpAny_bind (wpAny_callSpecial?_slot (name:=Str.ofString "__next__") hj.typeIs F.slot_tuple_iterator_next (wpAny_call_entry F.slot_tuple_iterator_next hj.typeIs F.entry_tuple_iterator_next ?_ (F.args_tuple_iterator_next_1 _)));refine wpAny_bind (m:=field (.ref j) 0) (wpAny_field h0 h2 (x:=.ref t) rfl ?_)
 show wpAny _ _ (if (Value.ref t == Value.none)=true then _ else _) _ _ _
 rw [MH (show ¬ ((.ref t:Value) == .none)=true from MQ)];refine My (m:=field (.ref j) 1) (Nn h0 h2 (x:=.int k 0) rfl ?_);refine My (m:=seqItems? (.ref t)) (NU g0 g1 ?_);simp only [Nv,hv];refine My (OB h0 h2 (by simp) (MM ⟨v,rfl,MM (hQ _ ⟨_,NN _ h0 (NM (NZ h2 _)),(Obj.cls_mapFields ..).trans h1,?_⟩ (Oo ..))⟩));rw [NZ h2];simp [rawInt]
theorem nY{j t:Addr}{k:Nat}{xs:Array Value}{Q:Value->Shared->Prop}(hh:A.handled=none)(hj:s.heap.IsTupleIter j t k)(ht:s.heap.IsTuple t xs)(hv:xs[k]? = none)
  (hE:∀ g e,Heap.ExtBut j s.heap g->(∃ o,g.get? e=some o/\o.cls=.type "StopIteration")->E (.ref e) { s with heap:=g }):wpAny (model prog w) A (Builtin.SmallTypes.nextOf (.ref j)) Q E s:=by
 obtain⟨oj,h0,h1,h2⟩:=id hj;obtain⟨ot,g0,_,n,g1⟩:=ht;unfold Builtin.SmallTypes.nextOf;refine wpAny_bind (wpAny_callSpecial?_slot (name:=Str.ofString "__next__") hj.typeIs F.slot_tuple_iterator_next (wpAny_call_entry F.slot_tuple_iterator_next hj.typeIs F.entry_tuple_iterator_next ?_ (F.args_tuple_iterator_next_1 _)));refine wpAny_bind (m:=field (.ref j) 0) (wpAny_field h0 h2 (x:=.ref t) rfl ?_)
 show wpAny _ _ (if (Value.ref t == Value.none)=true then _ else _) _ _ _
 rw [MH (show ¬ ((.ref t:Value) == .none)=true from MQ)];refine My (m:=field (.ref j) 1) (Nn h0 h2 (x:=.int k 0) rfl ?_);refine My (m:=seqItems? (.ref t)) (NU g0 g1 ?_);simp only [Nv,hv];refine My (wpAny_rule (My (OB h0 h2 (by simp) (My (m:=newExc (.type "StopIteration") []) ?_))));simp only [newExc,newTuple];refine My (OA (My (m:=firstArgMember _ _) (wpAny_of_eq (a:=Value.none) (by first|rfl|(simp only [firstArgMember];rfl)) (OA ?_ (by size_fits)))) (by size_fits));simp only [raiseNew]
 refine My (wpAny_handled ?_);first|rw [show A.in1.handled=none from hh]|rw [hh]
 exact My (MM (wpAny_throw (hE _ _ (((Oo ..).extBut.push _).push _) ⟨_,MO _ rfl,rfl⟩)))
theorem Cw(it l:Addr)(hne:l ≠ it)(xs:Array Value):Src prog w it [it,l] (λ k h=>h.IsTupleIter it l k/\h.IsTuple l xs) (λ k=>xs[k]?) where
 mem:=MF
 there:=λ k h st b hb=>by
  rcases MU.mp hb with e|hb
  ·obtain⟨o,q,_⟩:=st.1;exact⟨o,by rw [e];exact q⟩
  ·obtain⟨o,q,_⟩:=st.2;exact⟨o,by rw [MV.mp hb];exact q⟩
 keep:=λ k h h' st q=>⟨st.1.at λ o e=>q it (by simp) o e,st.2.at λ o e=>q l (by simp) o e⟩
 item:=λ A k s v Q E st hv hQ=>lX st.1 st.2 hv λ h' a b=>hQ h' ⟨a,st.2.extBut b.extBut hne⟩ b
 fin:=λ A k s Q E hh st hv hE=>nY hh st.1 st.2 hv hE
structure jN(z TI TO i j:Addr)(f g:List Addr):Prop where
 ti:TI ≠ z/\TI ≠ TO/\TI ≠ i/\TI ≠ j
 zt:z ≠ TO
 zf:z ∉ f
 zg:z ∉ g
 tf:TO ∉ f
 tg:TO ∉ g
 ig:i ∉ g
 jf:j ∉ f
variable {z TI TO i j:Addr}{f g:List Addr}{ti tj:Nat->Heap->Prop}{vi vj:Nat->Option Value}{k m:Nat}{x y a b:Value}
theorem eG{p q:Addr}{l:List Addr}(hp:p∈l)(hq:q ∉ l):p ≠ q:=λ e=>hq (e ▸ hp)
theorem Src.but{prog:Program}{w:World}{it:Addr}{fr:List Addr}{st:Nat->Heap->Prop}{val:Nat->Option Value}(S:Src prog w it fr st val){k:Nat}{c:Addr}{h h':Heap}(q:st k h)(e:Heap.ExtBut c h h')(hc:c ∉ fr):st k h':=
 S.keep k h h' q λ b hb o ho=>e b o (eG hb hc) ho
theorem wm(S:Src prog w i f ti vi)(T:Src prog w j g tj vj)(D:jN z TI TO i j f g){Q:Value->Shared->Prop}
  (hz:IsZip s.heap z TI TO .none) (hTI:IsPair s.heap TI (.ref i) (.ref j)) (hTO:IsPair s.heap TO a b) (hi:ti k s.heap) (hj:tj m s.heap) (hx:vi k=some x) (hy:vj m=some y)
  (hQ:∀ h',IsZip h' z TI TO (rawInt s.heap.objs.size)->IsPair h' TO x y->ti (k+1) h'->tj (m+1) h'->IsPair h' s.heap.objs.size x y->h'.objs.size=s.heap.objs.size+1->(∀ c o,c ∉ [z,TO,i,j]->s.heap.get? c=some o->h'.get? c=some o)->Q (.ref s.heap.objs.size) { s with heap:=h' }) :
  wpAny (model prog w) A (Builtin.«zip.__next__» ⟨[.ref z],[]⟩) (λ fin s'=>∃ v,fin=.done (.ret v)/\Q v s') E s:=by
 have iz:i ≠ z:=eG S.mem D.zf;have jz:j ≠ z:=eG T.mem D.zg;have iTO:i ≠ TO:=eG S.mem D.tf;have jTO:j ≠ TO:=eG T.mem D.tg;have ij:i ≠ j:=eG S.mem D.jf;refine wpAny_bind (m:=field (.ref z) 2) (wpAny_field hz rfl (x:=.bool false) rfl ?_);refine wpAny_bind (m:=field (.ref z) 3) (wpAny_field hz rfl (x:=.ref TI) rfl (wpAny_bind (wpAny_seqItems hTI rfl ?_)));refine wpAny_bind (m:=Builtin.SmallTypes.ownedTupleIsFree (.ref z)) ?_;unfold Builtin.SmallTypes.ownedTupleIsFree;refine wpAny_bind (wpAny_field hz rfl (x:=.none) rfl (wpAny_pure ?_));simp only [if_true];refine wpAny_bind (wpAny_rule (wpAny_bind (wpAny_field hz rfl (x:=.ref TO) rfl (wpAny_bind (wpAny_setField_rec hz (by simp) λ q1 z1 s1=>?_)))));replace z1:IsZip q1 z TI TO .ellipsis:=z1;refine wpAny_bind ?_;simp only [List.zipIdx_cons,List.zipIdx_nil,List.forIn_cons,List.forIn_nil];refine wpAny_bind (wpAny_bind (wpAny_onRaise (wpAny_bind (m:=Builtin.SmallTypes.nextOf (.ref i)) (S.item _ k _ x _ _ (S.but hi s1.extBut D.zf) hx λ q2 i2 s2=>wpAny_pure ?_))));have o2:IsPair q2 TO a b:=s2.extBut _ _ iTO.symm (s1.extBut _ _ D.zt.symm hTO);refine wpAny_bind (wpAny_seqItems o2 rfl (wpAny_bind (wpAny_updateSeq_pair o2 λ q3 o3 s3=>wpAny_bind (wpAny_letGo (wpAny_pure ?_)))));replace o3:IsPair q3 TO x b:=o3;have j3:tj m q3:=T.but (T.but (T.but hj s1.extBut D.zg) s2.extBut D.ig) s3.extBut D.tg;refine wpAny_bind (wpAny_bind (wpAny_onRaise (wpAny_bind (m:=Builtin.SmallTypes.nextOf (.ref j)) (T.item _ m _ y _ _ j3 hy λ q4 j4 s4=>wpAny_pure ?_))));have o4:IsPair q4 TO x b:=s4.extBut _ _ jTO.symm o3;refine wpAny_bind (wpAny_seqItems o4 rfl (wpAny_bind (wpAny_updateSeq_pair o4 λ q5 o5 s5=>wpAny_bind (wpAny_letGo (wpAny_pure (wpAny_pure ?_))))));replace o5:IsPair q5 TO x y:=o5;refine wpAny_bind (wpAny_seqItems o5 rfl (wpAny_bind (wpAny_newTuple ?_)));have sz:q5.objs.size=s.heap.objs.size:=by rw [s5.1,s4.1,s3.1,s2.1,s1.1]
 have z5:IsZip q5 z TI TO .ellipsis:=s5.extBut _ _ D.zt (s4.extBut _ _ jz.symm (s3.extBut _ _ D.zt (s2.extBut _ _ iz.symm z1)))
 have k5:∀ c o,c ∉ [z,TO,i,j]->s.heap.get? c=some o->q5.get? c=some o:=λ c o hc e=>by
  simp only [MU,Na,Nt,not_or] at hc;exact s5.extBut _ _ hc.2.1 (s4.extBut _ _ hc.2.2.2 (s3.extBut _ _ hc.2.1 (s2.extBut _ _ hc.2.2.1 (s1.extBut _ _ hc.1 e))))
 have i5:ti (k+1) q5:=S.but (S.but (S.but i2 s3.extBut D.tf) s4.extBut D.jf) s5.extBut D.tf;have j5:tj (m+1) q5:=T.but j4 s5.extBut D.tg;have zlt:z < q5.objs.size:=Heap.lt_size z5;refine wpAny_bind (m:=Builtin.SmallTypes.ownedTupleHandOut (.ref z) (.ref q5.objs.size)) ?_;unfold Builtin.SmallTypes.ownedTupleHandOut;have z6:IsZip (q5.push { cls:=.type "tuple",data:=.seq #[x,y] }) z TI TO .ellipsis:=Heap.get?_push_of_some _ z5;refine wpAny_bind (wpAny_setField_rec z6 (by simp) λ q7 z7 s7=>?_);replace z7:IsZip q7 z TI TO (rawInt q5.objs.size):=z7;refine wpAny_setField_rec z7 (by simp) λ q8 z8 s8=>?_;replace z8:IsZip q8 z TI TO (rawInt q5.objs.size):=z8;have up:∀ c o,c ≠ z->q5.get? c=some o->q8.get? c=some o:=λ c o hc e=>s8.extBut _ _ hc (s7.extBut _ _ hc (Heap.get?_push_of_some _ e));have t8:IsPair q8 q5.objs.size x y:=s8.extBut _ _ (Nat.ne_of_gt zlt) (s7.extBut _ _ (Nat.ne_of_gt zlt) (Heap.get?_push_size _ rfl));have n8:q8.objs.size=q5.objs.size+1:=by rw [s8.1,s7.1,Heap.size_push]
 rw [sz] at z8 t8 n8;refine MM ⟨_,rfl,?_⟩
 show Q (.ref q5.objs.size) _
 rw [sz];exact hQ q8 z8 (up _ _ D.zt.symm o5) (S.keep _ _ _ i5 λ c hc o e=>up c o (eG hc D.zf) e) (T.keep _ _ _ j5 λ c hc o e=>up c o (eG hc D.zg) e) t8 n8 λ c o hc e=>up c o (λ q=>hc (by simp [q])) (k5 c o hc e)
theorem yN(hh:A.handled=none)(S:Src prog w i f ti vi)(T:Src prog w j g tj vj)(D:jN z TI TO i j f g){Q:Fin->Shared->Prop}
  (hz:IsZip s.heap z TI TO .none) (hTI:IsPair s.heap TI (.ref i) (.ref j)) (hTO:IsPair s.heap TO a b) (hi:ti k s.heap) (hj:tj m s.heap) (hxy:vi k=none\/vj m=none)
  (hE:∀ h' e,(∀ c o,c ∉ [z,TO,i,j]->s.heap.get? c=some o->h'.get? c=some o)->(∃ o,h'.get? e=some o/\o.cls=.type "StopIteration")->E (.ref e) { s with heap:=h' }) :
  wpAny (model prog w) A (Builtin.«zip.__next__» ⟨[.ref z],[]⟩) Q E s:=by
 have iz:i ≠ z:=eG S.mem D.zf;have jz:j ≠ z:=eG T.mem D.zg;have iTO:i ≠ TO:=eG S.mem D.tf;have jTO:j ≠ TO:=eG T.mem D.tg;refine wpAny_bind (m:=field (.ref z) 2) (wpAny_field hz rfl (x:=.bool false) rfl ?_);refine wpAny_bind (m:=field (.ref z) 3) (wpAny_field hz rfl (x:=.ref TI) rfl (wpAny_bind (wpAny_seqItems hTI rfl ?_)));refine wpAny_bind (m:=Builtin.SmallTypes.ownedTupleIsFree (.ref z)) ?_;unfold Builtin.SmallTypes.ownedTupleIsFree;refine wpAny_bind (wpAny_field hz rfl (x:=.none) rfl (wpAny_pure ?_));simp only [if_true];refine wpAny_bind (wpAny_rule (wpAny_bind (wpAny_field hz rfl (x:=.ref TO) rfl (wpAny_bind (wpAny_setField_rec hz (by simp) λ q1 z1 s1=>?_)))));replace z1:IsZip q1 z TI TO .ellipsis:=z1;refine wpAny_bind ?_;simp only [List.zipIdx_cons,List.zipIdx_nil,List.forIn_cons,List.forIn_nil];refine wpAny_bind (wpAny_bind (wpAny_onRaise (wpAny_bind (m:=Builtin.SmallTypes.nextOf (.ref i)) ?_)))
 cases hx:vi k with
 | none=>
  refine S.fin _ k _ _ _ hh (S.but hi s1.extBut D.zf) hx λ q2 e s2 ⟨oe,he,hce⟩=>?_;have z2:IsZip q2 z TI TO .ellipsis:=s2 _ _ iz.symm z1;have ez:e ≠ z:=λ q=>by subst q;rw [z2] at he;cases he;simp at hce
  refine NX z2 (by simp) λ q3 _ s3=>hE q3 e (λ c o hc q=>?_) ⟨oe,s3.extBut _ _ ez he,hce⟩;simp only [MU,Na,Nt,not_or] at hc;exact s3.extBut _ _ hc.1 (s2 _ _ hc.2.2.1 (s1.extBut _ _ hc.1 q))
 | some x=>
  have hy:vj m=none:=hxy.resolve_left (by rw [hx];exact Option.some_ne_none x);refine S.item _ k _ x _ _ (S.but hi s1.extBut D.zf) hx λ q2 i2 s2=>MM ?_;have o2:IsPair q2 TO a b:=s2.extBut _ _ iTO.symm (s1.extBut _ _ D.zt.symm hTO);refine My (NU o2 rfl (My (Po o2 λ q3 o3 s3=>My (wpAny_letGo (MM ?_)))));have j3:tj m q3:=T.but (T.but (T.but hj s1.extBut D.zg) s2.extBut D.ig) s3.extBut D.tg;refine My (My (PF (My (m:=Builtin.SmallTypes.nextOf (.ref j)) (T.fin _ m _ _ _ hh j3 hy λ q4 e s4 ⟨oe,he,hce⟩=>?_))));have z4:IsZip q4 z TI TO .ellipsis:=s4 _ _ jz.symm (s3.extBut _ _ D.zt (s2.extBut _ _ iz.symm z1));have ez:e ≠ z:=λ q=>by subst q;rw [z4] at he;cases he;simp at hce
  refine NX z4 (by simp) λ q5 _ s5=>hE q5 e (λ c o hc q=>?_) ⟨oe,s5.extBut _ _ ez he,hce⟩;simp only [MU,Na,Nt,not_or] at hc;exact s5.extBut _ _ hc.1 (s4 _ _ hc.2.2.2 (s3.extBut _ _ hc.2.1 (s2.extBut _ _ hc.2.2.1 (s1.extBut _ _ hc.1 q))))
theorem jE(S:Src prog w i f ti vi)(T:Src prog w j g tj vj)(D:jN z TI TO i j f g){Q:Option Value->Shared->Prop}
  (hz:IsZip s.heap z TI TO .none) (hTI:IsPair s.heap TI (.ref i) (.ref j)) (hTO:IsPair s.heap TO a b) (hi:ti k s.heap) (hj:tj m s.heap) (hx:vi k=some x) (hy:vj m=some y)
  (hQ:∀ h',IsZip h' z TI TO (rawInt s.heap.objs.size)->IsPair h' TO x y->ti (k+1) h'->tj (m+1) h'->IsPair h' s.heap.objs.size x y->h'.objs.size=s.heap.objs.size+1->(∀ c o,c ∉ [z,TO,i,j]->s.heap.get? c=some o->h'.get? c=some o)->Q (some (.ref s.heap.objs.size)) { s with heap:=h' }) :
  wpAny (model prog w) A (pyNext (.ref z)) Q E s:=by
 have ty:s.TypeIs (.ref z) "zip":=⟨_,hz,rfl⟩;unfold pyNext;exact wpAny_bind (wpAny_attempt (wpAny_callSpecial?_slot (name:=Str.ofString "__next__") ty F.slot_zip_next (wpAny_call_entry F.slot_zip_next ty F.entry_zip_next (wm S T D hz hTI hTO hi hj hx hy λ h' c1 c2 c3 c4 c5 c6 c7=>wpAny_pure (hQ h' c1 c2 c3 c4 c5 c6 c7)) (F.args_zip_next_1 _))))
theorem lO(hh:A.handled=none)(S:Src prog w i f ti vi)(T:Src prog w j g tj vj)(D:jN z TI TO i j f g){Q:Option Value->Shared->Prop}
  (hz:IsZip s.heap z TI TO .none) (hTI:IsPair s.heap TI (.ref i) (.ref j)) (hTO:IsPair s.heap TO a b) (hi:ti k s.heap) (hj:tj m s.heap) (hxy:vi k=none\/vj m=none)
  (hQ:∀ h',(∀ c o,c ∉ [z,TO,i,j]->s.heap.get? c=some o->h'.get? c=some o)->Q none { s with heap:=h' }):wpAny (model prog w) A (pyNext (.ref z)) Q E s:=by
 have ty:s.TypeIs (.ref z) "zip":=⟨_,hz,rfl⟩;unfold pyNext;refine wpAny_bind (wpAny_attempt (wpAny_callSpecial?_slot (name:=Str.ofString "__next__") ty F.slot_zip_next (wpAny_call_entry F.slot_zip_next ty F.entry_zip_next (yN (show A.in1.handled=none from hh) S T D hz hTI hTO hi hj hxy λ h' e kp he=>?_) (F.args_zip_next_1 _))));obtain⟨o,ho,hc⟩:=he;exact wpAny_bind (wpAny_isInstance (T := "StopIteration") (b:=true) ⟨o,ho,hc⟩ isSubtype_stop (wpAny_pure (hQ _ kp)))
end
def SeqAt(h:Heap)(k:Bool)(l:Addr)(xs:Array Value):Prop:=match k with
 | true=>h.IsTuple l xs
 | false=>h.IsList l xs
def di(h:Heap)(k:Bool)(it l:Addr)(n:Nat):Prop:=match k with
 | true=>h.IsTupleIter it l n
 | false=>h.IsListIter it l n
def yI(k:Bool)(l:Addr):Obj:=match k with
 | true=>{ cls:=.type "tuple_iterator",data:=.fields #[.ref l,.int 0 0] }
 | false=>{ cls:=.type "list_iterator",data:=.fields #[.ref l,.int 0 0] }
theorem SeqAt.at{h h':Heap}{k:Bool}{l:Addr}{xs:Array Value}(q:SeqAt h k l xs)(e:∀ o,h.get? l=some o->h'.get? l=some o):SeqAt h' k l xs:=by
 cases k
 ·exact Heap.IsList.at q e
 ·exact Heap.IsTuple.at q e
theorem di.at{h h':Heap}{k:Bool}{it l:Addr}{n:Nat}(q:di h k it l n)(e:∀ o,h.get? it=some o->h'.get? it=some o):di h' k it l n:=by
 cases k
 ·exact Heap.IsListIter.at q e
 ·exact Heap.IsTupleIter.at q e
theorem di.obj{h:Heap}{k:Bool}{it l:Addr}{n:Nat}(q:di h k it l n):∃ o fs,h.get? it=some o/\o.data=.fields fs:=by
 cases k
 ·obtain⟨o,e,_,d⟩:=(show h.IsListIter it l n from q);exact⟨o,_,e,d⟩
 ·obtain⟨o,e,_,d⟩:=(show h.IsTupleIter it l n from q);exact⟨o,_,e,d⟩
theorem qt{prog:Program}{w:World}(k:Bool)(it l:Addr)(hne:l ≠ it)(xs:Array Value):Src prog w it [it,l] (λ n h=>di h k it l n/\SeqAt h k l xs) (λ n=>xs[n]?):=by
 cases k
 ·exact yU it l hne xs
 ·exact Cw it l hne xs
section
variable {prog:Program}{w:World}{A:Around}{E:Value->Shared->Prop}{s:Shared}
theorem vO{k:Bool}{l:Addr}{xs:Array Value}{Q:Value->Shared->Prop}(h:SeqAt s.heap k l xs)(hQ:Q (.ref s.heap.objs.size) { s with heap:=s.heap.push (yI k l) }):wpAny (model prog w) A (pyIter (.ref l)) Q E s:=by
 cases k
 ·exact O5 h hQ
 ·exact wpAny_pyIter_tuple h hQ
abbrev zq1(ka:Bool)(a:Addr)(h:Heap):Heap:=h.push (yI ka a)
abbrev zq2(ka kb:Bool)(a b:Addr)(h:Heap):Heap:=(zq1 ka a h).push (yI kb b)
abbrev zq3(ka kb:Bool)(a b:Addr)(h:Heap):Heap:=(zq2 ka kb a b h).push { cls:=.type "tuple",data:=.seq #[.ref h.objs.size,.ref (zq1 ka a h).objs.size] }
abbrev zq4(ka kb:Bool)(a b:Addr)(h:Heap):Heap:=(zq3 ka kb a b h).push { cls:=.type "tuple",data:=.seq #[.none,.none] }
abbrev zq5(ka kb:Bool)(a b:Addr)(h:Heap):Heap:=(zq4 ka kb a b h).push { cls:=.type "zip",data:=.fields #[.none,.bool false,.bool false,.ref (zq2 ka kb a b h).objs.size,.ref (zq3 ka kb a b h).objs.size] }
theorem wj(ka kb:Bool)(a b:Addr)(xs ys:Array Value):Meets (Builtin.«zip.__new__» ⟨[.type "zip",.ref a,.ref b],[]⟩) (λ _ R s=>SeqAt s.heap ka a xs/\SeqAt s.heap kb b ys/\R (.ok (.ret (.ref (zq4 ka kb a b s.heap).objs.size))) { s with heap:=zq5 ka kb a b s.heap }):=
 .of_wp λ prog w A R s h=>by
  obtain⟨hp,g,d,tk,os⟩:=s;obtain⟨h1,h2,h⟩:=h;have hsub:=sub_zip;have q1:SeqAt (Shared.heap ⟨hp,g,d,tk,os⟩) ka a xs:=h1;have q2:SeqAt (Shared.heap ⟨hp.push (yI ka a),g,d,tk,os⟩) kb b ys:=h2.at λ o e=>Mz _ e
  wp_walk using vO q1,vO q2
  exact⟨_,rfl,h⟩
theorem EF{ka kb:Bool}{a b:Addr}{xs ys:Array Value}{Q:Value->Shared->Prop}(h1:SeqAt s.heap ka a xs)(h2:SeqAt s.heap kb b ys)
  (h:∀ h' n,n=s.heap.objs.size->IsZip h' (n+4) (n+2) (n+3) .none->IsPair h' (n+2) (.ref n) (.ref (n+1))->IsPair h' (n+3) .none .none->di h' ka n a 0->di h' kb (n+1) b 0->h'.objs.size=n+5->(∀ c o,s.heap.get? c=some o->h'.get? c=some o)->Q (.ref (n+4)) { s with heap:=h' }) :
  wpAny (model prog w) A (call (.type "zip") [.ref a,.ref b]) Q E s:=by
 refine callType_new F.called_zip (by decide) (F.typeCall_zip_2 _ _) (F.newCall_zip_2 _ _) (λ ob=>F.args_object_init_3 ob _ _) F.entry_zip_new (wj ka kb a b xs ys) ⟨h1,h2,?_⟩;have n1:(zq1 ka a s.heap).objs.size=s.heap.objs.size+1:=Nz ..;have n2:(zq2 ka kb a b s.heap).objs.size=s.heap.objs.size+2:=by rw [Nz,n1]
 have n3:(zq3 ka kb a b s.heap).objs.size=s.heap.objs.size+3:=by rw [Nz,n2]
 have n4:(zq4 ka kb a b s.heap).objs.size=s.heap.objs.size+4:=by rw [Nz,n3]
 have n5:(zq5 ka kb a b s.heap).objs.size=s.heap.objs.size+5:=by rw [Nz,n4]
 have f1:di (zq1 ka a s.heap) ka s.heap.objs.size a 0:=by
  cases ka<;>exact⟨_,MO _ rfl,rfl,rfl⟩
 have f2:di (zq2 ka kb a b s.heap) kb (zq1 ka a s.heap).objs.size b 0:=by
  cases kb<;>exact⟨_,MO _ rfl,rfl,rfl⟩
 have u2:∀ c o,(zq2 ka kb a b s.heap).get? c=some o->(zq5 ka kb a b s.heap).get? c=some o:=λ c o e=>Mz _ (Mz _ (Mz _ e));have g5:(zq5 ka kb a b s.heap).get? (zq4 ka kb a b s.heap).objs.size=some _:=MO _ rfl;have g4:(zq5 ka kb a b s.heap).get? (zq3 ka kb a b s.heap).objs.size=some _:=Mz _ (MO _ rfl);have g3:(zq5 ka kb a b s.heap).get? (zq2 ka kb a b s.heap).objs.size=some _:=Mz _ (Mz _ (MO _ rfl));have e1:di (zq5 ka kb a b s.heap) ka s.heap.objs.size a 0:=f1.at λ o e=>u2 _ o (Mz _ e);have e2:di (zq5 ka kb a b s.heap) kb (zq1 ka a s.heap).objs.size b 0:=f2.at λ o e=>u2 _ o e
 show _/\_
 rw [n2,n3,n4] at g5;rw [n1,n2] at g3;rw [n3] at g4;rw [n1] at e2;rw [n4];exact⟨⟨_,g5,rfl⟩,h _ _ rfl g5 g3 g4 e1 e2 n5 λ c o e=>u2 c o (Mz _ (Mz _ e))⟩
end
section
variable {X:Cx}{pins:List (Addr × Obj)}{σ:List (Option V)}{H:Hp}{s:Shared}{h':Heap}
theorem Inv.turnNew{t':Nat}{ch:List Addr}{n:Addr}{o:HO}(I:Inv X pins σ H s)(hch:∀ b∈ch,oI X pins H b)(k:∀ b ob,b ∉ ch->s.heap.get? b=some ob->h'.get? b=some ob)(hn:s.heap.objs.size<=n)(new:bK X.prog X.w (upd H n o) h' n o) :
  Inv X pins σ (upd H n o) { s with heap:=h',toks:=t' }:=by
 have fn:=I.hok.fresh hn;have up:∀ {b u},H b=some u->upd H n o b=some u:=λ {b u} e=>by rw [ai (bR e fn)];exact e
 have nch:∀ {b u},H b=some u->b ∉ ch:=λ {b u} e z=>by rw [(hch b z).1] at e;cases e
 refine I.step (g':=s.gens) (d':=s.drawn) (ch:=ch) (λ b hb=>⟨(hch b hb).2.2.2.1,(hch b hb).2.1,(hch b hb).2.2.2.2.1,(hch b hb).2.2.2.2.2⟩) (λ b ob _ _ hc e _=>k b ob hc e) (λ b ob _ _ hc e _=>⟨ob.slots,k b ob hc e⟩)
  (λ b ob _ e q=>?_) (λ b ob hc e=>⟨ob,k b ob hc e⟩) (λ _ _ e=>up e) (λ _ _ _ e=>up e) (λ b ps e=>⟨#[],by rw [up e];simp⟩) (λ m hm=>?_) (λ b u e=>?_) I.bare
 ·rw [ai (MS (MN (MJ e) hn))];exact q
 ·obtain⟨ol,es,ep,ho,r⟩:=hm;exact⟨ol,es,ep,k _ ol (λ z=>(hch _ z).2.1 rfl) ho,r⟩
 ·by_cases hb:b=n
  ·subst hb;rw [aj] at e;cases e;exact new
  ·rw [ai hb] at e;refine(I.hok b u e).stay (λ c v hc q=>k c v ?_ q) (λ c q=>up q) λ c xs q=>up q
   rcases hc with rfl|hc
   ·exact nch e
   ·exact nch hc
theorem Inv.turnL{t':Nat}{ch:List Addr}(I:Inv X pins σ H s)(hch:∀ b∈ch,oI X pins H b)(k:∀ b ob,b ∉ ch->s.heap.get? b=some ob->h'.get? b=some ob):Inv X pins σ H { s with heap:=h',toks:=t' }:=by
 have nch:∀ {b u},H b=some u->b ∉ ch:=λ {b u} e z=>by rw [(hch b z).1] at e;cases e
 refine I.step (g':=s.gens) (d':=s.drawn) (ch:=ch) (λ b hb=>⟨(hch b hb).2.2.2.1,(hch b hb).2.1,(hch b hb).2.2.2.2.1,(hch b hb).2.2.2.2.2⟩) (λ b ob _ _ hc e _=>k b ob hc e) (λ b ob _ _ hc e _=>⟨ob.slots,k b ob hc e⟩)
  (λ _ _ _ _ q=>q) (λ b ob hc e=>⟨ob,k b ob hc e⟩) (λ _ _ e=>e) (λ _ _ _ e=>e) (λ b ps e=>⟨#[],by rw [e];simp⟩) (λ m hm=>?_) (λ b u e=>?_) I.bare
 ·obtain⟨ol,es,ep,ho,r⟩:=hm;exact⟨ol,es,ep,k _ ol (λ z=>(hch _ z).2.1 rfl) ho,r⟩
 ·refine(I.hok b u e).stay (λ c v hc q=>k c v ?_ q) (λ _ q=>q) λ _ _ q=>q
  rcases hc with rfl|hc
  ·exact nch e
  ·exact nch hc
end
def SqK(k:Bool)(H:Hp)(a:Addr)(xs:List V):Prop:=match k with
 | true=>H a=some (.tup xs)
 | false=>H a=some (.lst xs)
theorem SqK.ne{k:Bool}{H:Hp}{a b:Addr}{xs:List V}(h:SqK k H a xs)(e:H b=none):a ≠ b:=λ z=>by
 subst z;cases k
 ·rw [show H a=some (.lst xs) from h] at e;cases e
 ·rw [show H a=some (.tup xs) from h] at e;cases e
theorem Inv.sq{X:Cx}{pins:List (Addr × Obj)}{σ:St}{H:Hp}{s:Shared}{k:Bool}{a:Addr}{xs:List V}(I:Inv X pins σ H s)(h:SqK k H a xs):∃ its:List Value,bq xs its/\SeqAt s.heap k a its.toArray:=by
 cases k
 ·obtain⟨its,r,p,_⟩:=I.list (SqL.of h);exact⟨its,r,p.isList⟩
 ·obtain⟨its,r,p,_⟩:=I.tuple (SqT.of h);exact⟨its,r,p⟩
def Itz(ka kb:Bool)(a b:Addr)(xs ys:List V):It:=
 ⟨λ i H=>SqK ka H a xs/\SqK kb H b ys/\i < xs.length/\i < ys.length,λ i H x H'=>∃ p u v,H p=none/\x=.ref p/\xs[i]? = some u/\ys[i]? = some v/\H'=upd H p (.tup [u,v]),λ i H=>SqK ka H a xs/\SqK kb H b ys/\(xs.length<=i\/ys.length<=i)⟩
def Tnz(ka kb:Bool)(a b z TI TO p q:Addr)(i:Nat)(h:Heap):Prop:=IsZip h z TI TO .none/\IsPair h TI (.ref p) (.ref q)/\(∃ u v,IsPair h TO u v)/\di h ka p a i/\di h kb q b i
theorem yR{P:Program}{w:World}{K:W.Frag}{elts:List Expr}{x1}{tp:Pos}(ka kb:Bool)(a b z TI TO p q:Addr)(xs ys:List V)(nd:[z,TI,TO,p,q].Nodup):yw P w K (.Tuple elts x1 tp) (Itz ka kb a b xs ys) [z,TI,TO,p,q] z (Tnz ka kb a b z TI TO p q) where
 mem:=MF
 obj:=λ i h st c hc=>by
  obtain⟨e1,e2,⟨u,v,e3⟩,e4,e5⟩:=st;simp only [MU,Na,Nt] at hc
  rcases hc with rfl|rfl|rfl|rfl|rfl
  ·exact⟨_,e1,λ v z=>by cases z⟩
  ·exact⟨_,e2,λ v z=>by cases z⟩
  ·exact⟨_,e3,λ v z=>by cases z⟩
  ·obtain⟨o,fs,e,d⟩:=e4.obj;exact⟨o,e,λ v z=>by rw [d] at z;cases z⟩
  ·obtain⟨o,fs,e,d⟩:=e5.obj;exact⟨o,e,λ v z=>by rw [d] at z;cases z⟩
 keep:=λ i h h' st k=>by
  obtain⟨e1,e2,⟨u,v,e3⟩,e4,e5⟩:=st;exact⟨k z (by simp) _ e1,k TI (by simp) _ e2,⟨u,v,k TO (by simp) _ e3⟩,e4.at λ o e=>k p (by simp) o e,e5.at λ o e=>k q (by simp) o e⟩
 item:=by
  intro X hP hw hK hc i pins s σ H E I hf st hg;subst hP hw hK;obtain⟨e1,e2,⟨u0,v0,e3⟩,e4,e5⟩:=st;obtain⟨ha,hb,l1,l2⟩:=hg;obtain⟨as,ra,sa⟩:=I.sq ha;obtain⟨bs,rb,sb⟩:=I.sq hb;have hx:xs[i]? = some xs[i]:=Mx l1;have hy:ys[i]? = some ys[i]:=Mx l2;obtain⟨u,hu,ru⟩:=ra.get hx;obtain⟨v,hv,rv⟩:=rb.get hy;have free:∀ c∈[z,TI,TO,p,q],H c=none:=λ c h=>(hf c h).1;have naz:∀ c∈[z,TI,TO,p,q],a ≠ c:=λ c h=>ha.ne (free c h);have nbz:∀ c∈[z,TI,TO,p,q],b ≠ c:=λ c h=>hb.ne (free c h);simp only [Nq,MU,Na,Nt,not_or,not_false_eq_true,and_true,Ph] at nd;obtain⟨⟨z1,z2,z3,z4⟩,⟨t1,t2,t3⟩,⟨w1,w2⟩,y1⟩:=nd;have S:=qt (prog:=X.prog) (w:=X.w) ka p a (naz p (by simp)) as.toArray;have T:=qt (prog:=X.prog) (w:=X.w) kb q b (nbz q (by simp)) bs.toArray;have D:jN z TI TO p q [p,a] [q,b]:=⟨⟨Nd z1,t1,t2,t3⟩,z2,by simp [z3,Nd (naz z (by simp))],by simp [z4,Nd (nbz z (by simp))],by simp [w1,Nd (naz TO (by simp))],by simp [w2,Nd (nbz TO (by simp))],by simp [y1,Nd (nbz p (by simp))],by simp [Nd y1,Nd (naz q (by simp))]⟩;refine jE S T D e1 e2 e3 ⟨e4,sa⟩ ⟨e5,sb⟩ (x:=u) (y:=v) (by simpa using hu) (by simpa using hv) λ h1 c1 c2 c3 c4 c5 c6 c7=>?_;refine⟨_,rfl,wpAny_letOwnedTupleGo_zip (s:={ s with heap:=h1 }) c1 λ h2 d1 d2=>?_⟩;have lt:z < s.heap.objs.size:=MJ e1;have kp:∀ c o,c ∉ [z,TO,p,q]->s.heap.get? c=some o->h2.get? c=some o:=λ c o hc e=>d2.extBut _ _ (λ q=>hc (by simp [q])) (c7 c o hc e);have hn:h2.get? s.heap.objs.size=some { cls:=.type "tuple",data:=.seq #[u,v] }:=d2.extBut _ _ (OH lt) c5;have I2:Inv X pins σ (upd H s.heap.objs.size (.tup [xs[i],ys[i]])) { s with heap:=h2 }:=I.turnNew (t':=s.toks) (ch:=[z,TO,p,q]) (λ c hc=>hf c (by simp only [MU,Na,Nt] at hc ⊢;rcases hc with h|h|h|h<;>simp [h])) kp (MG _) ⟨(show 2<=sizeLine by decide),[u,v],.cons ru (.cons rv .nil),⟨_,hn,rfl,_,rfl⟩⟩;have fr:H s.heap.objs.size=none:=I.hok.fresh (MG _);refine⟨.ref s.heap.objs.size,_,I2,rfl,⟨_,_,_,fr,rfl,hx,hy,rfl⟩,⟨d1,d2.extBut _ _ (Nd z1) (c7 TI _ (by simp [Nd z1,t1,t2,t3]) e2),⟨u,v,d2.extBut _ _ (Nd z2) c2⟩,c3.1.at λ o e=>d2.extBut _ _ (Nd z3) e,c4.1.at λ o e=>d2.extBut _ _ (Nd z4) e⟩,λ c hc=>?_⟩
  obtain⟨o,ho,_⟩:∃ o,s.heap.get? c=some o/\True:=by
   simp only [MU,Na,Nt] at hc
   rcases hc with rfl|rfl|rfl|rfl|rfl
   ·exact⟨_,e1,trivial⟩
   ·exact⟨_,e2,trivial⟩
   ·exact⟨_,e3,trivial⟩
   ·obtain⟨o,_,e,_⟩:=e4.obj;exact⟨o,e,trivial⟩
   ·obtain⟨o,_,e,_⟩:=e5.obj;exact⟨o,e,trivial⟩
  rw [ai (MS (MJ ho))];exact free c hc
 done:=by
  intro X hP hw hK hc i pins s σ H E I hf st hg;subst hP hw hK;obtain⟨e1,e2,⟨u0,v0,e3⟩,e4,e5⟩:=st;obtain⟨ha,hb,l⟩:=hg;obtain⟨as,ra,sa⟩:=I.sq ha;obtain⟨bs,rb,sb⟩:=I.sq hb;have free:∀ c∈[z,TI,TO,p,q],H c=none:=λ c h=>(hf c h).1;have naz:∀ c∈[z,TI,TO,p,q],a ≠ c:=λ c h=>ha.ne (free c h);have nbz:∀ c∈[z,TI,TO,p,q],b ≠ c:=λ c h=>hb.ne (free c h);simp only [Nq,MU,Na,Nt,not_or,not_false_eq_true,and_true,Ph] at nd;obtain⟨⟨z1,z2,z3,z4⟩,⟨t1,t2,t3⟩,⟨w1,w2⟩,y1⟩:=nd;have S:=qt (prog:=X.prog) (w:=X.w) ka p a (naz p (by simp)) as.toArray;have T:=qt (prog:=X.prog) (w:=X.w) kb q b (nbz q (by simp)) bs.toArray;have D:jN z TI TO p q [p,a] [q,b]:=⟨⟨Nd z1,t1,t2,t3⟩,z2,by simp [z3,Nd (naz z (by simp))],by simp [z4,Nd (nbz z (by simp))],by simp [w1,Nd (naz TO (by simp))],by simp [w2,Nd (nbz TO (by simp))],by simp [y1,Nd (nbz p (by simp))],by simp [Nd y1,Nd (naz q (by simp))]⟩;have la:=ra.length;have lb:=rb.length;refine lO (I.ok.hd hc) S T D e1 e2 e3 ⟨e4,sa⟩ ⟨e5,sb⟩ (l.imp (λ h=>by simp;omega) λ h=>by simp;omega) λ h1 kp=>⟨rfl,I.turnL (t':=s.toks) (ch:=[z,TO,p,q]) (λ c hc=>hf c (by simp only [MU,Na,Nt] at hc ⊢;rcases hc with h|h|h|h<;>simp [h])) kp⟩
 self:=λ _ _ _ _ _ st h=>wpAny_pyIter_zip st.1 h
def kZ2(ka:Bool)(a b:Addr)(xs:List V)(H:Hp)(R:It->Hp->Prop):HO->Prop:=λ o=>match o with
 | .lst ys=>R (Itz ka false a b xs ys) H
 | .tup ys=>R (Itz ka true a b xs ys) H
 | _=>False
theorem DF(ka:Bool)(a b:Addr)(xs ys:List V)(H:Hp)(R:It->Hp->Prop):kZ2 ka a b xs H R (.lst ys)=R (Itz ka false a b xs ys) H:=rfl
def kZ1(a b:Addr)(H:Hp)(R:It->Hp->Prop):HO->Prop:=λ o=>match o with
 | .lst xs=>aV (H b) (kZ2 false a b xs H R)
 | .tup xs=>aV (H b) (kZ2 true a b xs H R)
 | _=>False
theorem DH(a b:Addr)(xs:List V)(H:Hp)(R:It->Hp->Prop):kZ1 a b H R (.lst xs)=aV (H b) (kZ2 false a b xs H R):=rfl
theorem DG(a b:Addr)(xs:List V)(H:Hp)(R:It->Hp->Prop):kZ1 a b H R (.tup xs)=aV (H b) (kZ2 true a b xs H R):=rfl
def kZ0(R:It->Hp->Prop):List V->Hp->Prop:=λ vs H=>match vs with
 | [.ref a,.ref b]=>aV (H a) (kZ1 a b H R)
 | _=>False
theorem Kn(R:It->Hp->Prop)(a b:Addr)(H:Hp):kZ0 R [.ref a,.ref b] H=aV (H a) (kZ1 a b H R):=rfl
def LK(ta:TA):TI:=λ σ H R=>ta σ H (kZ0 R)
theorem Ii(ta:TA)(σ:St)(H:Hp)(R:It->Hp->Prop):LK ta σ H R=ta σ H (kZ0 R):=rfl
theorem Iw{R:It->Hp->Prop}{vs:List V}{H:Hp}(h:kZ0 R vs H):∃ a b ka kb xs ys,vs=[.ref a,.ref b]/\SqK ka H a xs/\SqK kb H b ys/\R (Itz ka kb a b xs ys) H:=by
 unfold kZ0 at h;split at h
 ·rename_i a b;obtain⟨o,e,h⟩:=au h;unfold kZ1 at h;split at h
  ·rename_i xs;obtain⟨o',e',h⟩:=au h;unfold kZ2 at h;split at h
   ·exact⟨a,b,false,false,xs,_,rfl,e,e',h⟩
   ·exact⟨a,b,false,true,xs,_,rfl,e,e',h⟩
   ·exact h.elim
  ·rename_i xs;obtain⟨o',e',h⟩:=au h;unfold kZ2 at h;split at h
   ·exact⟨a,b,true,false,xs,_,rfl,e,e',h⟩
   ·exact⟨a,b,true,true,xs,_,rfl,e,e',h⟩
   ·exact h.elim
  ·exact h.elim
 ·exact h.elim
section
variable {X:Cx}
theorem Gm{a b:Expr}{elts:List Expr}{x1}{tp:Pos}{ta:TA}{p pos:Pos}(hg:Gl X "zip")(hm:X.mg "zip"=none)(ha:PA X [a,b] ta)(hs:starEach [a,b] X.env=[(false,eval a X.env),(false,eval b X.env)]:=by rfl)(hs2:starEach [b] X.env=[(false,eval b X.env)]:=by rfl) :
  PI X (.Tuple elts x1 tp) (.Call (.Name "zip" p) [a,b] [] pos) (LK ta):=by
 intro pins s σ H R I h;refine Call_ (gj I hg hm (show bootBuiltins "zip"=some (.type "zip") by decide +kernel) (NB (thn (ha pos pins s σ H _ I h) λ us s1 ⟨vs,H1,I1,r1,q1⟩=>?_) (by rw [hs,hs2]) (by rw [hs2];rfl)));obtain⟨a,b,ka,kb,xs,ys,rfl,sa,sb,q⟩:=Iw q1
 cases r1 with
 | cons r rr=>
  cases rr with
  | cons r' rr=>
   cases rr;cases r;cases r';obtain⟨as,ra,s1a⟩:=I1.sq sa;obtain⟨bs,rb,s1b⟩:=I1.sq sb;refine EF s1a s1b λ h' n hn e1 e2 e3 e4 e5 e6 e7=>?_;have I2:Inv X pins σ H1 { s1 with heap:=h' }:=I1.kept (t':=s1.toks) e7;refine wpAny_pyIter_zip (s:={ s1 with heap:=h' }) e1 ⟨n+4,[n+4,n+2,n+3,n,n+1],_,_,H1,rfl,I2,yR ka kb a b (n+4) (n+2) (n+3) n (n+1) xs ys (by simp),⟨e1,e2,⟨_,_,e3⟩,e4,e5⟩,λ c hc=>?_,q⟩
   have hle:s1.heap.objs.size<=c:=by
    rw [←hn];simp only [MU,Na,Nt] at hc
    rcases hc with rfl|rfl|rfl|rfl|rfl
    ·exact Oy ..
    ·exact Oy ..
    ·exact Oy ..
    ·exact MG _
    ·exact Oy ..
   exact I1.fpOk hle (I1.hok.fresh hle)
end
def E9(te:TE)(σ2:St)(N1:VK)(N0:Hp->Prop):Bool->Hp->Prop:=λ b H=>if b=true then te σ2 H N1 else N0 H
theorem bc(te:TE)(σ2:St)(N1:VK)(N0:Hp->Prop)(b:Bool)(H:Hp):E9 te σ2 N1 N0 b H=(if b=true then te σ2 H N1 else N0 H):=rfl
def kCm(k:Nat)(tt:TT)(te:TE)(σ:St)(N1:VK)(N0:Hp->Prop):St->Hp->Prop:=λ σ2 H=>(∃ vs:St,vs.length=k/\σ2=vs++σ)/\tt σ2 H (E9 te σ2 N1 N0)
theorem bU(tt:TT)(te:TE)(σ:St)(N1:VK)(N0:Hp->Prop)(a:Option V)(H:Hp):kCm 1 tt te σ N1 N0 (a::σ) H=tt (a::σ) H (E9 te (a::σ) N1 N0):=propext ⟨λ h=>h.2,λ h=>⟨⟨[a],rfl,rfl⟩,h⟩⟩
theorem cC(tt:TT)(te:TE)(σ:St)(N1:VK)(N0:Hp->Prop)(a b:Option V)(H:Hp):kCm 2 tt te σ N1 N0 (a::b::σ) H=tt (a::b::σ) H (E9 te (a::b::σ) N1 N0):=propext ⟨λ h=>h.2,λ h=>⟨⟨[a,b],rfl,rfl⟩,h⟩⟩
theorem Du(σ:St):List.replicate 1 (none:Option V)++σ=none::σ:=rfl
theorem Dt(σ:St):List.replicate 2 (none:Option V)++σ=none::none::σ:=rfl
theorem Ds(σ:St):List.replicate 3 (none:Option V)++σ=none::none::none::σ:=rfl
theorem kG(tt:TT)(te:TE)(σ:St)(N1:VK)(N0:Hp->Prop)(a b c:Option V)(H:Hp):kCm 3 tt te σ N1 N0 (a::b::c::σ) H=tt (a::b::c::σ) H (E9 te (a::b::c::σ) N1 N0):=propext ⟨λ h=>h.2,λ h=>⟨⟨[a,b,c],rfl,rfl⟩,h⟩⟩
def Al{α:Type}(R:α->V->Prop)(zs:List α)(ys:List V):Prop:=ys.length=zs.length/\∀ (i:Nat) z y,zs[i]? = some z->ys[i]? = some y->R z y
theorem Al.nil{α:Type}{R:α->V->Prop}:Al R [] []:=⟨rfl,λ i z y h=>by simp at h⟩
theorem Al.snoc{α:Type}{R:α->V->Prop}{zs:List α}{ys:List V}{z:α}{y:V}(h:Al R zs ys)(r:R z y):Al R (zs++[z]) (ys++[y]):=by
 refine⟨by simp [h.1],λ i z' y' h1 h2=>?_⟩
 by_cases hi:i < zs.length
 ·rw [Nu hi] at h1;rw [Nu (by rw [h.1];exact hi)] at h2;exact h.2 i z' y' h1 h2
 ·rw [Ng (by omega)] at h1;rw [Ng (by rw [h.1];omega),h.1] at h2
  by_cases h0:i - zs.length=0
  ·rw [h0] at h1 h2;simp at h1 h2;subst h1;subst h2;exact r
  ·rw [NR (by simp;omega)] at h1;cases h1
theorem Al.imp{α:Type}{R S:α->V->Prop}{zs:List α}{ys:List V}(h:Al R zs ys)(f:∀ z y,R z y->S z y):Al S zs ys:=⟨h.1,λ i z y a b=>f z y (h.2 i z y a b)⟩
theorem Al.map{α:Type}{f:α->V}{zs:List α}{ys:List V}(h:Al (λ z y=>y=f z) zs ys):ys=zs.map f:=by
 apply List.ext_getElem?;intro i;rw [MZ]
 by_cases hi:i < zs.length
 ·have e1:zs[i]? = some zs[i]:=Mx hi;have e2:ys[i]? = some (ys[i]'(by rw [h.1];exact hi)):=Mx _;rw [e1,e2,h.2 i _ _ e1 e2];rfl
 ·have:=h.1;rw [NR (show ys.length<=i by omega),NR (show zs.length<=i by omega)];rfl
section
variable {k:Nat}{g:TG}{tt:TT}{te:TE}{σ:St}{Q:VK}{H:Hp}{K:PySem.W.Frag}
theorem rJ{α:Type}{J:It}(zs:List α)(c:α->Bool)(P:α->V->Hp->Prop)(R:Addr->α->V->Hp->Prop)
  (hgo:∀ i z H',zs[i]? = some z->Ext H H'->J.go i H'/\∀ x H'',J.yld i H' x H''->Ext H' H''/\P z x H'')
  (hst:∀ H',Ext H H'->J.stop zs.length H')
  (hR1:∀ D z y H1 H2,R D z y H1->Ext H1 H2->R D z y H2) (hR2:∀ D z y H1 o,R D z y H1->R D z y (upd H1 D o))
  (hl:zs.length<=sizeLine)
  (hs:∀ D z x H' N1 N0,z∈zs->H D=none->Ext H H'->(∃ ys,H' D=some (.lst ys))->P z x H'->(c z=true->∀ y H'',Ext H' H''->R D z y H''->N1 y H'')->(c z=false->∀ H'',Ext H' H''->N0 H'')->g x (List.replicate k none++σ) H' (kCm k tt te σ N1 N0))
  (hd:∀ D ys H',H D=none->Ext H H'->H' D=some (.lst ys)->Al (λ z y=>R D z y H') (zs.filter c) ys->Q (.ref D) H'):yF k g tt te σ Q J H:=by
 intro D hD;refine⟨λ i m ys H'=>m=zs.length - i/\i<=zs.length/\Ext H H'/\H' D=some (.lst ys)/\Al (λ z y=>R D z y H') ((zs.take i).filter c) ys,⟨zs.length,by simp,Np _,Ext.new hD,aj,by simpa using Al.nil⟩,?_⟩;rintro i m ys H' ⟨rfl,hi,e,hD',al⟩
 by_cases hlt:i < zs.length
 ·have hz:zs[i]? = some zs[i]:=Mx hlt;obtain⟨go,y⟩:=hgo i zs[i] H' hz e;have tk:zs.take (i+1)=zs.take i++[zs[i]]:=by rw [List.take_succ,hz];rfl
  have ln:ys.length < sizeLine:=by
   have h1:=al.1;have h2:=List.length_filter_le c (zs.take i);simp only [NP] at h2;omega
  refine .inr ⟨go,λ ys' H2=>Ext H H2/\H2 D=some (.lst ys')/\Al (λ z y=>R D z y H2) ((zs.take (i+1)).filter c) ys',λ ys' H2 p=>⟨zs.length - (i+1),by omega,rfl,hlt,p⟩,λ x H2 z=>?_⟩;obtain⟨e2,p2⟩:=y x H2 z;refine hs D zs[i] x H2 (kC3 D ys _) _ (Nx hlt) hD (e.trans e2) ⟨ys,e2.at hD'⟩ p2 (λ hc y H3 e3 r3=>?_) λ hc H3 e3=>?_
  ·refine⟨e3.at (e2.at hD'),ln,(e.trans (e2.trans e3)).put hD,aj,?_⟩;rw [tk,OL,show [zs[i]].filter c=[zs[i]] by simp [hc]];exact Al.snoc (al.imp λ z y r=>hR2 _ _ _ _ _ (hR1 _ _ _ _ _ r (e2.trans e3))) (hR2 _ _ _ _ _ r3)
  ·refine⟨e.trans (e2.trans e3),(e2.trans e3).at hD',?_⟩;rw [tk,OL,show [zs[i]].filter c=[] by simp [hc],Oz];exact al.imp λ z y r=>hR1 _ _ _ _ _ r (e2.trans e3)
 ·have e':i=zs.length:=by omega
  subst e';rw [N2] at al;exact .inl ⟨hst H' e,hd D ys H' hD e hD' al⟩
theorem bH{α:Type}{J:It}(zs:List α)(c:α->Bool)(f:α->V)(P:α->V->Hp->Prop)
  (hgo:∀ i z H',zs[i]? = some z->Ext H H'->J.go i H'/\∀ x H'',J.yld i H' x H''->Ext H' H''/\P z x H'')
  (hst:∀ H',Ext H H'->J.stop zs.length H') (hl:zs.length<=sizeLine)
  (hs:∀ D z x H' N1 N0,z∈zs->H D=none->Ext H H'->P z x H'->(c z=true->∀ H'',Ext H' H''->N1 (f z) H'')->(c z=false->∀ H'',Ext H' H''->N0 H'')->g x (List.replicate k none++σ) H' (kCm k tt te σ N1 N0))
  (hd:∀ D H',H D=none->Ext H H'->H' D=some (.lst ((zs.filter c).map f))->Q (.ref D) H'):yF k g tt te σ Q J H:=
 rJ zs c P (λ _ z y _=>y=f z) hgo hst (λ _ _ _ _ _ r _=>r) (λ _ _ _ _ _ r=>r) hl (λ D z x H' N1 N0 hz hD e _ p k1 k0=>hs D z x H' N1 N0 hz hD e p (λ hc H'' e'=>k1 hc _ H'' e' rfl) k0) λ D ys H' hD e hD' al=>hd D H' hD e (by rw [←al.map];exact hD')
theorem jK{lo:Int}{n:Nat}:(∀ i z H',(List.range n)[i]? = some z->Ext H H'->(Itr lo n).go i H'/\∀ x H'',(Itr lo n).yld i H' x H''->Ext H' H''/\x=.int (lo+(z:Nat)))/\∀ H',Ext H H'->(Itr lo n).stop (List.range n).length H':=by
 refine⟨λ i z H' hz _=>?_,λ H' _=>by simp [Itr]⟩;obtain⟨h1,h2⟩:=MB.mp hz;have e:i=z:=by simpa using h2
 subst e;exact⟨(show i < n by simpa using h1),λ x H'' y=>⟨by rw [y.1];exact Ext.refl _,y.2⟩⟩
theorem qr{a:Addr}{xs:List V}(h:H a=some (.lst xs)):(∀ i z H',xs[i]? = some z->Ext H H'->(Itl K a).go i H'/\∀ x H'',(Itl K a).yld i H' x H''->Ext H' H''/\(x=z/\H'' a=some (.lst xs)))/\∀ H',Ext H H'->(Itl K a).stop xs.length H':=
 ⟨λ i z H' hz e=>⟨⟨xs,z,SqL.of (e.at h),hz⟩,λ x H'' y=>⟨by rw [y.1];exact Ext.refl _,Nh ((y.2 xs (SqL.of (e.at h))).symm.trans hz),by rw [y.1];exact e.at h⟩⟩,λ H' e=>⟨xs,SqL.of (e.at h),MG _⟩⟩
theorem SqK.ext{kk:Bool}{H H':Hp}{a:Addr}{xs:List V}(h:SqK kk H a xs)(e:Ext H H'):SqK kk H' a xs:=by
 cases kk
 ·exact e.at (show H a=some (.lst xs) from h)
 ·exact e.at (show H a=some (.tup xs) from h)
def L3(z:V × V)(x:V)(H:Hp):Prop:=∃ p,x=.ref p/\H p=some (.tup [z.1,z.2])
theorem Ba{ka kb:Bool}{a b:Addr}{xs ys:List V}(ha:SqK ka H a xs)(hb:SqK kb H b ys):(∀ i z H',(xs.zip ys)[i]? = some z->Ext H H'->(Itz ka kb a b xs ys).go i H'/\∀ x H'',(Itz ka kb a b xs ys).yld i H' x H''->Ext H' H''/\L3 z x H'')/\∀ H',Ext H H'->(Itz ka kb a b xs ys).stop (xs.zip ys).length H':=by
 refine⟨λ i z H' hz e=>?_,λ H' e=>⟨ha.ext e,hb.ext e,?_⟩⟩
 ·obtain⟨h1,h2⟩:=MB.mp hz;rw [NJ] at h1;refine⟨⟨ha.ext e,hb.ext e,by omega,by omega⟩,λ x H'' y=>?_⟩;obtain⟨p,u,v,hp,rfl,hu,hv,rfl⟩:=y;refine⟨Ext.new hp,p,rfl,?_⟩;rw [aj];rw [Mx (by omega)] at hu hv;cases hu;cases hv;rw [←h2,Py]
 ·rw [NJ];omega
theorem vS{tb:TS}{nx:St->Hp->Prop}{rt:VK}{bk ct:St->Hp->Prop}{ka kb:Bool}{a b:Addr}{xs ys:List V}(Pv:Nat->St->Hp->Prop)(h0:Pv 0 σ H)(hl:∀ i σ H,Pv i σ H->SqK ka H a xs/\SqK kb H b ys)
  (hs:∀ i u v p σ H H',xs[i]? = some u->ys[i]? = some v->Pv i σ H->H p=none->Ext H H'->H' p=some (.tup [u,v])->g (.ref p) σ H' (sH tb ⟨Pv (i+1),rt,nx,Pv (i+1)⟩)) (hd:∀ σ H,Pv (min xs.length ys.length) σ H->nx σ H):ET g tb ⟨nx,rt,bk,ct⟩ σ (Itz ka kb a b xs ys) H:=by
 refine⟨λ i m σ H=>m=min xs.length ys.length - i/\i<=min xs.length ys.length/\Pv i σ H,⟨min xs.length ys.length,by simp,Np _,h0⟩,?_⟩;rintro i m σ H ⟨rfl,hi,p⟩;obtain⟨qa,qb⟩:=hl i σ H p
 by_cases hlt:i < min xs.length ys.length
 ·refine .inr ⟨⟨qa,qb,by omega,by omega⟩,Pv (i+1),λ σ' H' p'=>⟨min xs.length ys.length - (i+1),by omega,rfl,hlt,p'⟩,λ x H' y=>?_⟩;obtain⟨r,u,v,hr,rfl,hu,hv,rfl⟩:=y;exact hs i u v r σ H _ hu hv p hr (Ext.new hr) aj
 ·have e:i=min xs.length ys.length:=by omega
  subst e;exact .inl ⟨⟨qa,qb,by omega⟩,hd σ H p⟩
end
def FQ(sc:Scope)(N:List Str)(scope:Scope)(N':List Str)(k:Nat):Bool:=
 scope.names.all (λ y=>!(y.2 == .cell)) && (scope.kind == .function) && scope.names.all (λ y=>!(y.2 == .local) || scope.names.lookup y.1 == some .local) && scope.names.all (λ y=>!(y.2 == .free) || sc.names.lookup y.1 == some .cell) && decide (N'.length=k+N.length) &&
  ((N'.drop k).zip N).all (λ p=>(!(scope.names.lookup p.1 == some .free) || decide (p.1=p.2)) && !(scope.names.lookup p.1 == some .local))
theorem aK{X:Cx}{scope:Scope}{N':List Str}{k:Nat}(sc:Scope)(N:List Str)(h1:X.env.scope=sc)(h2:X.N=N)(h:FQ sc N scope N' k=true):iN X scope N' k:=by
 unfold FQ at h;simp only [Bool.and_eq_true,decide_eq_true_eq] at h;obtain⟨⟨⟨⟨⟨a1,a2⟩,a3⟩,a4⟩,a5⟩,a6⟩:=h;rw [List.all_eq_true] at a1 a3 a4 a6
 have pr:∀ i x,N'[k+i]? = some x->∃ y,N[i]? = some y/\(x,y)∈(N'.drop k).zip N:=λ i x hx=>by
  have h0:=(MB.mp hx).1;have hi:i < N.length:=by omega
  have e1:(N'.drop k)[i]? = some x:=by rw [List.getElem?_drop];exact hx
  have e2:N[i]? = some N[i]:=Mx hi;refine⟨_,e2,N3 (i:=i) ?_⟩;rw [Nw];exact⟨e1,e2⟩
 refine⟨λ y hy e=>?_,by simpa using a2,λ y hy e=>?_,λ y hy e=>?_,by rw [h2];exact a5,λ i x hx hf=>?_,λ i x hx hf=>?_⟩
 ·have:=a1 y hy;rw [e] at this;simp at this
 ·have:=a3 y hy;rw [e] at this;simpa using this
 ·have:=a4 y hy;rw [e] at this;rw [h1];simpa using this
 ·obtain⟨y,hy,hm⟩:=pr i x hx;have:=a6 _ hm;simp only [hf] at this;rw [h2,hy];simp at this;rw [this]
 ·obtain⟨y,hy,hm⟩:=pr i x hx;have:=a6 _ hm;simp [hf] at this
def Ce(H:Hp)(Q:VK):V->Prop:=λ v=>Q v H
theorem DX(H:Hp)(Q:VK)(v:V):Ce H Q v=Q v H:=rfl
def yE(K:W.Frag)(f:Str)(H:Hp)(Q:VK):HO->Prop:=λ o=>match o with
 | .ins C dx fs=>Cls K C/\eI K C f/\aV (fs.lookup f) (Ce H Q)
 | _=>False
theorem DY(K:W.Frag)(f:Str)(H:Hp)(Q:VK)(C dx:Addr)(fs:List (Str × V)):yE K f H Q (.ins C dx fs)=(Cls K C/\eI K C f/\aV (fs.lookup f) (Ce H Q)):=rfl
def E8(K:W.Frag)(f:Str)(Q:VK):VK:=λ x H=>match x with
 | .ref a=>aV (H a) (yE K f H Q)
 | _=>False
theorem HN(K:W.Frag)(f:Str)(Q:VK)(a:Addr)(H:Hp):E8 K f Q (.ref a) H=aV (H a) (yE K f H Q):=rfl
def Lk(K:W.Frag)(ta:TE)(f:Str):TE:=λ σ H Q=>ta σ H (E8 K f Q)
theorem Hs(K:W.Frag)(ta:TE)(f:Str)(σ:St)(H:Hp)(Q:VK):Lk K ta f σ H Q=ta σ H (E8 K f Q):=rfl
theorem Ej{K:W.Frag}{f:Str}{Q:VK}{x:V}{H:Hp}(h:E8 K f Q x H):∃ a C dx fs v,x=.ref a/\H a=some (.ins C dx fs)/\Cls K C/\eI K C f/\fs.lookup f=some v/\Q v H:=by
 unfold E8 at h;split at h
 ·obtain⟨o,e,h⟩:=au h;unfold yE at h;split at h
  ·obtain⟨c,n,h⟩:=h;obtain⟨v,l,q⟩:=au h;exact⟨_,_,_,_,v,rfl,e,c,n,l,q⟩
  ·exact h.elim
 ·exact h.elim
section
variable {X:Cx}{e o value:Expr}{ta tv:TE}{f:Str}{pos pos':Pos}
theorem CO(he:PE X e ta)(hb:attributeBase e f X.env (eval e X.env)=eval e X.env):PE X (.Attribute e f pos) (Lk X.K ta f):=by
 intro pins s σ H Q I h;refine EK hb (thn (he pins s σ H _ I h) λ u s1 ⟨x,H1,I1,rx,q1⟩=>?_);obtain⟨a,C,dx,fs,v,ex,ea,c,n,l,q⟩:=Ej q1;subst ex;obtain rfl:u=Value.ref a:=rx;exact tS I1 ea c n l λ u' s2 I2 ru=>⟨v,H1,I2,ru,q⟩
def yB(K:W.Frag)(f:Str)(y:V)(a:Addr)(σ:St)(nx:St->Hp->Prop)(H:Hp):HO->Prop:=λ o=>match o with
 | .ins C dx fs=>Cls K C/\eI K C f/\fs.length < 1000/\nx σ (upd H a (.ins C dx (ff f y fs)))
 | _=>False
theorem DJ(K:W.Frag)(f:Str)(y:V)(a:Addr)(σ:St)(nx:St->Hp->Prop)(H:Hp)(C dx:Addr)(fs:List (Str × V)):yB K f y a σ nx H (.ins C dx fs)=(Cls K C/\eI K C f/\fs.length < 1000/\nx σ (upd H a (.ins C dx (ff f y fs)))):=rfl
def yC(K:W.Frag)(f:Str)(y:V)(σ:St)(nx:St->Hp->Prop):VK:=λ x H=>match x with
 | .ref a=>aV (H a) (yB K f y a σ nx H)
 | _=>False
theorem DN(K:W.Frag)(f:Str)(y:V)(σ:St)(nx:St->Hp->Prop)(a:Addr)(H:Hp):yC K f y σ nx (.ref a) H=aV (H a) (yB K f y a σ nx H):=rfl
def B9(K:W.Frag)(f:Str)(ta:TE)(σ:St)(nx:St->Hp->Prop):VK:=λ y H=>ta σ H (yC K f y σ nx)
theorem DO(K:W.Frag)(f:Str)(ta:TE)(σ:St)(nx:St->Hp->Prop)(y:V)(H:Hp):B9 K f ta σ nx y H=ta σ H (yC K f y σ nx):=rfl
def FA(K:W.Frag)(ta tv:TE)(f:Str):TS:=λ D σ H=>tv σ H (B9 K f ta σ D.nx)
theorem Dx(K:W.Frag)(ta tv:TE)(f:Str)(nx:St->Hp->Prop)(rt:VK)(bk ct:St->Hp->Prop)(σ:St)(H:Hp):FA K ta tv f ⟨nx,rt,bk,ct⟩ σ H=tv σ H (B9 K f ta σ nx):=rfl
theorem lh(ha:PE X o ta)(hv:PE X value tv)(hs:swapsWith value (some (.Attribute o f pos')) pos.line X.env=pure false):PS X (.Assign [.Attribute o f pos'] value pos) (FA X.K ta tv f):=by
 intro pins s σ H D I h;refine plainObj_wpAny_Assign_Attribute (thn (hv pins s σ H _ I h) λ u s1 ⟨y,H1,I1,ry,q⟩=>thn (ha pins s1 σ H1 _ I1 q) λ ov s2 ⟨x,H2,I2,rx,q1⟩=>?_) hs;unfold yC at q1;split at q1
 ·rename_i a;obtain rfl:ov=Value.ref a:=rx;obtain⟨ob,ea,q1⟩:=au q1;unfold yB at q1;split at q1
  ·obtain⟨c,n,l,q2⟩:=q1;exact sN I2 ea c n l ry λ s3 I3=>⟨σ,_,I3,q2⟩
  ·exact q1.elim
 ·exact q1.elim
end
def vg(sp:Sp)(dvs:List V)(E:XK)(a:Addr)(Q:VK):List V->Hp->Prop:=λ vs H=>sp (.ref a::(vs++dvs)) H Q E
theorem tD(sp:Sp)(dvs:List V)(E:XK)(a:Addr)(Q:VK)(H:Hp):vg sp dvs E a Q [] H=sp (.ref a::dvs) H Q E:=rfl
def qF(C:Addr)(m:Str)(sp:Sp)(dvs:List V)(E:XK)(t:TA)(σ:St)(Q:VK)(a:Addr)(H:Hp):HO->Prop:=λ o=>match o with
 | .ins C' dx fs=>C'=C/\fs.lookup m=none/\t σ H (vg sp dvs E a Q)
 | _=>False
theorem zF(C:Addr)(m:Str)(sp:Sp)(dvs:List V)(E:XK)(t:TA)(σ:St)(Q:VK)(a:Addr)(H:Hp)(dx:Addr)(fs:List (Str × V)):qF C m sp dvs E t σ Q a H (.ins C dx fs)=(fs.lookup m=none/\t σ H (vg sp dvs E a Q)):=propext ⟨λ h=>h.2,λ h=>⟨rfl,h⟩⟩
def uB(C:Addr)(m:Str)(sp:Sp)(dvs:List V)(E:XK)(t:TA)(σ:St)(Q:VK):VK:=λ x H=>match x with
 | .ref a=>aV (H a) (qF C m sp dvs E t σ Q a H)
 | _=>False
theorem DU(C:Addr)(m:Str)(sp:Sp)(dvs:List V)(E:XK)(t:TA)(σ:St)(Q:VK)(a:Addr)(H:Hp):uB C m sp dvs E t σ Q (.ref a) H=aV (H a) (qF C m sp dvs E t σ Q a H):=rfl
def FC(C:Addr)(m:Str)(sp:Sp)(dvs:List V)(E:XK)(ta:TE)(t:TA):TE:=λ σ H Q=>ta σ H (uB C m sp dvs E t σ Q)
theorem Dz(C:Addr)(m:Str)(sp:Sp)(dvs:List V)(E:XK)(ta:TE)(t:TA)(σ:St)(H:Hp)(Q:VK):FC C m sp dvs E ta t σ H Q=ta σ H (uB C m sp dvs E t σ Q):=rfl
theorem Am{C:Addr}{m:Str}{sp:Sp}{dvs:List V}{E:XK}{t:TA}{σ:St}{Q:VK}{x:V}{H:Hp}(h:uB C m sp dvs E t σ Q x H):∃ a dx fs,x=.ref a/\H a=some (.ins C dx fs)/\fs.lookup m=none/\t σ H λ vs H2=>sp (x::(vs++dvs)) H2 Q E:=by
 unfold uB at h;split at h
 ·obtain⟨o,e,h⟩:=au h;unfold qF at h;split at h
  ·obtain⟨rfl,l,h⟩:=h;exact⟨_,_,_,rfl,e,l,h⟩
  ·exact h.elim
 ·exact h.elim
section
variable {X:Cx}{CX:CXT}{k:Nat}{f C:Addr}{fd:FuncData}{ps:List Str}{sp:Sp}{dvs:List V}{ds:List Value}{E:XK}{x m:Str}{p pos apos:Pos}{e o:Expr}{es:List Expr}{ta:TE}{t:TA}
theorem mM{pl:Sem Bool}(he:PE X o ta)(c:Cls X.K C)(hm:BN X.K C m f)(F:bj X.prog X.w X.K X.mg X.base CX k f fd ps sp)(hr:g7 k X.A)(hb:aC X.K fd ps ds)(hd:bq dvs ds)(hx:iM CX X E)
  (ht:eval (.Call (.Attribute o m apos) [] [] pos) X.env=(do
   let ov ←eval o X.env
   standAt apos.atName
   let (f,first) ←holding [ov] (getMethod ov m pl)
   callWith pos f first (backTo pos (starEach [] X.env)) (backToKw pos (keywordEach [] X.env))):=by rfl) :
  PE X (.Call (.Attribute o m apos) [] [] pos) (FC C m sp dvs E ta E3):=by
 intro pins s σ H Q I h;refine W.methodCall_KW (pl:=pl) (thn (he pins s σ H _ I h) λ u s1 ⟨x,H1,I1,rx,q0⟩=>?_) ht;obtain⟨a,dx,fs,ex,ea,l,q⟩:=Am q0;subst ex;obtain rfl:u=Value.ref a:=rx;refine tR I1 ea c hm l ?_;exact W.callWith_K0 (first:=[.ref a]) I1.kIn hm.kp (Bi (us:=[.ref a]) (vs:=[.ref a]) F hr hb hd hx I1 (.cons rfl .nil) q)
end
def Cc(x:Addr)(Q:VK):VK:=λ v H=>v=.non/\Q (.ref x) H
theorem DV(x:Addr)(Q:VK)(H:Hp):Cc x Q .non H=Q (.ref x) H:=propext ⟨λ h=>h.2,λ h=>⟨rfl,h⟩⟩
def uC(C:Addr)(sp:Sp)(dvs:List V)(E:XK)(Q:VK):List V->Hp->Prop:=λ vs H=>∀ (x dx:Addr) (H':Hp),H x=none->H dx=none->dx ≠ x->Ext H H'->H' x=some (.ins C dx [])->H' dx=some (.own x)->sp (.ref x::(vs++dvs)) H' (Cc x Q) E
theorem wL(C:Addr)(sp:Sp)(dvs:List V)(E:XK)(Q:VK)(a b c:V)(H:Hp):uC C sp dvs E Q [a,b,c] H=∀ (x dx:Addr) (H':Hp),H x=none->H dx=none->dx ≠ x->Ext H H'->H' x=some (.ins C dx [])->H' dx=some (.own x)->sp (.ref x::a::b::c::dvs) H' (Cc x Q) E:=rfl
def FD(C:Addr)(sp:Sp)(dvs:List V)(E:XK)(t:TA):TE:=λ σ H Q=>t σ H (uC C sp dvs E Q)
theorem DA(C:Addr)(sp:Sp)(dvs:List V)(E:XK)(t:TA)(σ:St)(H:Hp)(Q:VK):FD C sp dvs E t σ H Q=t σ H (uC C sp dvs E Q):=rfl
section
variable {X:Cx}{CX:CXT}{k:Nat}{f C:Addr}{fd:FuncData}{ps:List Str}{sp:Sp}{dvs:List V}{ds:List Value}{E:XK}{x m:Str}{p pos apos:Pos}{e o:Expr}{es:List Expr}{ta:TE}{t:TA}
theorem uC.to{Q:VK}{vs:List V}{H:Hp}(h:uC C sp dvs E Q vs H):∀ x dx,H x=none->H dx=none->dx ≠ x->sp (.ref x::(vs++dvs)) (upd (upd H dx (.own x)) x (.ins C dx [])) (λ v H2=>v=.non/\Q (.ref x) H2) E:=λ x dx hx hd ne=>
 h x dx _ hx hd ne ((Ext.new hd).put hx) aj (by rw [ai ne,aj])
theorem zd(M:Mk X.K C f)(F:bj X.prog X.w X.K X.mg X.base CX k f fd ps sp)(hr:g7 (k+1) X.A)(hg:Gl X x)(hm:X.mg x=some (.ref C))(hb:aC X.K fd ps ds)(hd:bq dvs ds)(hx:iM CX X E)
  (ha:PA X (e::es) t) (hdb:(x == ("__debug__":Str))=false:=by decide) (he:starEach (e::es) X.env=(false,eval e X.env)::starEach es X.env:=by rfl) (hpl:(backTo pos (starEach es X.env)).any (·.1)=false:=by rfl) :
  PE X (.Call (.Name x p) (e::es) [] pos) (FD C sp dvs E t):=by
 intro pins s σ H Q I h;refine NY (gD I hg hm ?_ hdb);refine W.callWith_K (h₀:=X.base) I.ok.mod.kin M.kp (thn (ha pos pins s σ H _ I h) λ us s1 ⟨vs,H1,I1,r,q⟩=>⟨I1.kIn,?_⟩) he hpl;exact yY M F hr hb hd hx I1 r q.to
end
def vK:Expr->Bool
 | .Starred ..=>false
 | _=>true
theorem Cv{e:Expr}{es:List Expr}{env:Env}(h:vK e=true):starEach (e::es) env=(false,eval e env)::starEach es env:=by
 cases e<;>first|rfl|cases h
theorem E6{X:Cx}{e:Expr}{es:List Expr}{te:TE}{t:TA}(ha:PE X e te)(hr:PA X es t)(hn:vK e=true:=by rfl):PA X (e::es) (ux te t):=CV ha hr (Cv hn)
def BL(H:Hp)(z:List Int)(y:V):Prop:=∃ q,y=.ref q/\H q=some (.tup (z.map V.int))
theorem BL.ext{H H':Hp}{z:List Int}{y:V}(h:BL H z y)(e:Ext H H'):BL H' z y:=by
 obtain⟨q,rfl,hq⟩:=h;exact⟨q,rfl,e.at hq⟩
def dO(H:Hp)(p:Addr)(zs:List (List Int)):Prop:=∃ ys,H p=some (.lst ys)/\Al (BL H) zs ys
theorem dO.ext{H H':Hp}{p:Addr}{zs:List (List Int)}(h:dO H p zs)(e:Ext H H'):dO H' p zs:=by
 obtain⟨ys,hp,al⟩:=h;exact⟨ys,e.at hp,al.imp λ _ _ r=>r.ext e⟩
theorem kK{H:Hp}{f:V->Option PyData}:∀ {zs:List (List Int)}{ys:List V},Al (BL H) zs ys->aI (ys.map (bp H (bp H f)))=some (zs.map λ z=>PyData.tuple (z.map PyData.int))
 | [],ys,h=>by rw [Pz h.1];rfl
 | z::zs,[],h=>by have:=h.1;simp at this
 | z::zs,y::ys,h=>by
  obtain⟨q,rfl,hq⟩:=h.2 0 z y rfl rfl;have ih:=kK (H:=H) (f:=f) (zs:=zs) (ys:=ys) ⟨by have:=h.1;simpa using this,λ i z y a b=>h.2 (i+1) z y (by simpa using a) (by simpa using b)⟩
  have e1:bp H (bp H f) (.ref q)=some (.tuple (z.map PyData.int)):=by
   rw [fz,hq]
   show oH (bp H f) (.tup (z.map V.int))=_
   rw [fy,dv];rfl
  rw [Nf,e1,bt,ih];rfl
theorem az{n:Nat}(h:n<=5000):n<=sizeLine:=Nm h (by decide)
theorem gT{n:Nat}(h:n < 5000):n < sizeLine:=MN h (by decide)
def JI(xs:List V)(H:Hp)(Q:VK):List V->Prop:=λ ys=>xs.length+ys.length<=sizeLine/\∀ (p:Addr) (H':Hp),Ext H H'->H' p=some (.tup (xs++ys))->Q (.ref p) H'
theorem FT(xs:List V)(H:Hp)(Q:VK)(ys:List V):JI xs H Q ys=(xs.length+ys.length<=sizeLine/\∀ (p:Addr) (H':Hp),Ext H H'->H' p=some (.tup (xs++ys))->Q (.ref p) H'):=rfl
def JJ(b:Addr)(H:Hp)(Q:VK):List V->Prop:=λ xs=>aV (ki H b) (JI xs H Q)
theorem HX(b:Addr)(H:Hp)(Q:VK)(xs:List V):JJ b H Q xs=aV (ki H b) (JI xs H Q):=rfl
def B0:R2:=λ x y H Q=>match x,y with
 | .ref l,.ref b=>aV (ki H l) (JJ b H Q)
 | _,_=>False
theorem DD(l b:Addr)(H:Hp)(Q:VK):B0 (.ref l) (.ref b) H Q=aV (ki H l) (JJ b H Q):=rfl
theorem zm{X:Cx}:OpR X (binaryOp .Add) B0:=by
 intro pins s σ H x y v u Q I rx ry h;unfold B0 at h;split at h
 ·rename_i l b;obtain⟨xs,e1,h⟩:=au h;obtain⟨ys,e2,hz,k⟩:=au h;have g1:=uJ e1;have g2:=uJ e2
  by_cases hx:xs=[]
  ·subst hx;cases rx;cases ry;obtain⟨its,r1,p1,_⟩:=I.tuple (SqT.of g1);obtain⟨its2,r2,p2,_⟩:=I.tuple (SqT.of g2);obtain⟨⟨cls,dd,data,sl⟩,ho,hc,n,hd⟩:=id p1;obtain⟨⟨cls2,dd2,data2,sl2⟩,ho2,hc2,n2,hd2⟩:=id p2;simp only at hc hd hc2 hd2;subst hc hd hc2 hd2;cases r1
   exact concat_meets ⟨_,ho,rfl⟩ ⟨_,ho2,rfl⟩ noFill_tuple_add seq_tuple_add O2 OW (OT _ _)
    (tuple_addW0 l b #[] its2.toArray n n2 dd dd2 sl sl2 (by simp)) ⟨ho,ho2,show EP X pins σ Q (.ref b) s from ⟨.ref b,H,I,rfl,k b H (Ext.refl _) (by rw [List.nil_append];exact g2)⟩⟩
  ·refine C8 pins s σ H (.ref l) (.ref b) v u Q I rx ry ⟨l,b,xs,ys,rfl,rfl,SqT.of g1,SqT.of g2,hx,hz,λ hy=>?_,λ hy p hp=>k p _ (Ext.new hp) aj⟩;subst hy;exact k l H (Ext.refl _) (by rw [Oz];exact g1)
 ·exact h.elim
theorem fK{K:W.Frag}{H:Hp}{α:Type}{R:α->V->Hp->Prop}(hR:∀ z y H H',R z y H->Ext H H'->R z y H'){l:Addr}{ys:List V}{zs:List α}(h:H l=some (.lst ys))(al:Al (λ z y=>R z y H) zs ys) :
  (∀ i z H',zs[i]? = some z->Ext H H'->(Itl K l).go i H'/\∀ x H'',(Itl K l).yld i H' x H''->Ext H' H''/\R z x H'')/\∀ H',Ext H H'->(Itl K l).stop zs.length H':=by
 refine⟨λ i z H' hz e=>?_,λ H' e=>⟨ys,SqL.of (e.at h),by rw [al.1];exact MG _⟩⟩;have hi:i < ys.length:=by rw [al.1];exact(MB.mp hz).1
 have hy:ys[i]? = some ys[i]:=Mx hi;refine⟨⟨ys,ys[i],SqL.of (e.at h),hy⟩,λ x H'' y=>?_⟩;have hx:x=ys[i]:=Nh ((y.2 ys (SqL.of (e.at h))).symm.trans hy);refine⟨by rw [y.1];exact Ext.refl _,?_⟩;rw [hx,y.1];exact hR _ _ _ _ (al.2 i z _ hz hy) e
def axP(a:Int × Int)(x:V)(H:Hp):Prop:=∃ q,x=.ref q/\H q=some (.tup [.int a.1,.int a.2])
theorem axP.ext{a:Int × Int}{x:V}{H H':Hp}(h:axP a x H)(e:Ext H H'):axP a x H':=by
 obtain⟨q,rfl,hq⟩:=h;exact⟨q,rfl,e.at hq⟩
theorem mF{H:Hp}{axs:List (Int × Int)}{ys:List V}(al:Al (BL H) (axs.map λ a=>[a.1,a.2]) ys):Al (λ a y=>axP a y H) axs ys:=by
 refine⟨by rw [al.1,MK],λ i a y ha hy=>?_⟩;obtain⟨q,hq,h⟩:=al.2 i [a.1,a.2] y (by rw [MZ,ha];rfl) hy;exact⟨q,hq,h⟩
section
variable {prog:Program}{w:World}{A:Around}{E:Value->Shared->Prop}{s:Shared}
variable {z TI TO i j:Addr}{f g:List Addr}{ti tj:Nat->Heap->Prop}{vi vj:Nat->Option Value}{k m:Nat}{x y:Value}{t:Addr}{fl:Bool}{ot:Obj}
variable {ka kb:Bool}{a b p q:Addr}{as bs:Array Value}{n:Nat}
end
section
variable {X:Cx}{pins:List (Addr × Obj)}{σ:St}{s:Shared}
end
section
variable {X:Cx}
end
def Jn(xs:List V)(H:Hp)(Q:VK):Prop:=match xs with
 | [.int i]=>Q (.int i) H
 | [.bl k]=>Q (.int (if k=true then 1 else 0)) H
 | _=>False
theorem zA(k:Bool)(H:Hp)(Q:VK):Jn [.bl k] H Q=Q (.int (if k=true then 1 else 0)) H:=rfl
theorem m7{X:Cx}:bD X (.type "int") Jn:=xX.mono λ xs H Q h=>by
 unfold Jn at h;split at h
 ·exact .inl ⟨_,rfl,h⟩
 ·exact .inr ⟨_,rfl,h⟩
 ·exact h.elim
section
variable {X:Cx}
end
def Cf(l:Addr)(xs:List V)(H:Hp)(Q:VK):List V->Prop:=λ zs=>xs.length+zs.length<=sizeLine/\Q .non (upd H l (.lst (xs++zs)))
theorem DZ(l:Addr)(xs:List V)(H:Hp)(Q:VK)(zs:List V):Cf l xs H Q zs=(xs.length+zs.length<=sizeLine/\Q .non (upd H l (.lst (xs++zs)))):=rfl
def FI(l b:Addr)(H:Hp)(Q:VK):List V->Prop:=λ xs=>aV (aQ H b) (Cf l xs H Q)
theorem D0(l b:Addr)(H:Hp)(Q:VK)(xs:List V):FI l b H Q xs=aV (aQ H b) (Cf l xs H Q):=rfl
theorem wJ(l b:Addr)(H:Hp)(Q:VK):vz (.ref l) [.ref b] H Q=aV (aQ H l) (FI l b H Q):=by
 refine propext ⟨λ h=>?_,λ h=>?_⟩
 ·obtain⟨l',b',xs,zs,e1,e2,h1,h2,h3,q⟩:=h;cases e1;cases e2;unfold aQ;rw [h1]
  show aV (aQ H b) _
  unfold aQ;rw [h2];exact⟨h3,q⟩
 ·obtain⟨xs,e,h⟩:=au h;obtain⟨zs,e2,h3,q⟩:=au h;exact⟨l,b,xs,zs,rfl,rfl,dh e,dh e2,h3,q⟩
section
variable {X:Cx}{a b c d:Expr}{ta tb tc td:TE}{pos:Pos}
end
section
variable {k:Nat}{g:TG}{tt:TT}{te:TE}{σ:St}{Q:VK}{H:Hp}{K:PySem.W.Frag}
theorem cx{α:Type}{J:It}(zs:List α)(c:α->Bool)(P:α->V->Hp->Prop)(R:Addr->α->V->Hp->Prop)
  (hgo:∀ i z H',zs[i]? = some z->Ext H H'->J.go i H'/\∀ x H'',J.yld i H' x H''->Ext H' H''/\P z x H'')
  (hst:∀ H',Ext H H'->J.stop zs.length H')
  (hR1:∀ D z y H1 H2,R D z y H1->Ext H1 H2->R D z y H2) (hR2:∀ D z y H1 xs o,R D z y H1->H1 D=some (.lst xs)->R D z y (upd H1 D o))
  (hl:zs.length<=sizeLine)
  (hs:∀ D z x H' N1 N0,z∈zs->H D=none->Ext H H'->(∃ ys,H' D=some (.lst ys))->P z x H'->(c z=true->∀ y H'',Ext H' H''->R D z y H''->N1 y H'')->(c z=false->∀ H'',Ext H' H''->N0 H'')->g x (List.replicate k none++σ) H' (kCm k tt te σ N1 N0))
  (hd:∀ D ys H',H D=none->Ext H H'->H' D=some (.lst ys)->Al (λ z y=>R D z y H') (zs.filter c) ys->Q (.ref D) H'):yF k g tt te σ Q J H:=by
 intro D hD;refine⟨λ i m ys H'=>m=zs.length - i/\i<=zs.length/\Ext H H'/\H' D=some (.lst ys)/\Al (λ z y=>R D z y H') ((zs.take i).filter c) ys,⟨zs.length,by simp,Np _,Ext.new hD,aj,by simpa using Al.nil⟩,?_⟩;rintro i m ys H' ⟨rfl,hi,e,hD',al⟩
 by_cases hlt:i < zs.length
 ·have hz:zs[i]? = some zs[i]:=Mx hlt;obtain⟨go,y⟩:=hgo i zs[i] H' hz e;have tk:zs.take (i+1)=zs.take i++[zs[i]]:=by rw [List.take_succ,hz];rfl
  have ln:ys.length < sizeLine:=by
   have h1:=al.1;have h2:=List.length_filter_le c (zs.take i);simp only [NP] at h2;omega
  refine .inr ⟨go,λ ys' H2=>Ext H H2/\H2 D=some (.lst ys')/\Al (λ z y=>R D z y H2) ((zs.take (i+1)).filter c) ys',λ ys' H2 p=>⟨zs.length - (i+1),by omega,rfl,hlt,p⟩,λ x H2 z=>?_⟩;obtain⟨e2,p2⟩:=y x H2 z;refine hs D zs[i] x H2 (kC3 D ys _) _ (Nx hlt) hD (e.trans e2) ⟨ys,e2.at hD'⟩ p2 (λ hc y H3 e3 r3=>?_) λ hc H3 e3=>?_
  ·refine⟨e3.at (e2.at hD'),ln,(e.trans (e2.trans e3)).put hD,aj,?_⟩;rw [tk,OL,show [zs[i]].filter c=[zs[i]] by simp [hc]];exact Al.snoc (al.imp λ z y r=>hR2 _ _ _ _ _ _ (hR1 _ _ _ _ _ r (e2.trans e3)) (e3.at (e2.at hD'))) (hR2 _ _ _ _ _ _ r3 (e3.at (e2.at hD')))
  ·refine⟨e.trans (e2.trans e3),(e2.trans e3).at hD',?_⟩;rw [tk,OL,show [zs[i]].filter c=[] by simp [hc],Oz];exact al.imp λ z y r=>hR1 _ _ _ _ _ r (e2.trans e3)
 ·have e':i=zs.length:=by omega
  subst e';rw [N2] at al;exact .inl ⟨hst H' e,hd D ys H' hD e hD' al⟩
end
def Ite(l:Addr)(xs:List V):It:=
 ⟨λ i H=>H l=some (.lst xs)/\i < xs.length,λ i H x H'=>∃ p u,H p=none/\x=.ref p/\xs[i]? = some u/\H'=upd H p (.tup [.int (i:Int),u]),λ i H=>H l=some (.lst xs)/\i=xs.length⟩
def Tne(l e it:Addr)(i:Nat)(h:Heap):Prop:=(∃ old,IsEnum h e it (i:Int) old)/\h.IsListIter it l i
theorem wq{P:Program}{w:World}{K:PySem.W.Frag}{elts:List Expr}{x1}{tp:Pos}(l e it:Addr)(xs:List V)(ne:e ≠ it):yw P w K (.Tuple elts x1 tp) (Ite l xs) [e,it] e (Tne l e it) where
 mem:=MF
 obj:=λ i h st c hc=>by
  obtain⟨⟨old,e1⟩,e2⟩:=st;simp only [MU,Na,Nt] at hc
  rcases hc with rfl|rfl
  ·exact⟨_,e1,λ v z=>by cases z⟩
  ·obtain⟨o,e,_,d⟩:=e2;exact⟨o,e,λ v z=>by rw [d] at z;cases z⟩
 keep:=λ i h h' st k=>by
  obtain⟨⟨old,e1⟩,e2⟩:=st;exact⟨⟨old,k e (by simp) _ e1⟩,e2.at λ o q=>k it (by simp) o q⟩
 item:=by
  intro X hP hw hK hc i pins s σ H E I hf st hg;subst hP hw hK;obtain⟨ha,l1⟩:=hg;obtain⟨as,ra,pl,_⟩:=I.list (SqL.of ha);have hx:xs[i]? = some xs[i]:=Mx l1;obtain⟨u,hu,ru⟩:=ra.get hx;have free:∀ c∈[e,it],H c=none:=λ c h=>(hf c h).1;have nle:l ≠ e:=λ z=>by have:=free e (by simp);rw [←z,ha] at this;cases this
  have nlt:l ≠ it:=λ z=>by have:=free it (by simp);rw [←z,ha] at this;cases this
  have W:=WalksT.enumerate (prog:=X.prog) (w:=X.w) (I.ok.hd hc) e it l ne nle nlt as.toArray;have la:=ra.length;obtain⟨e1,e2⟩:=st;obtain⟨old,e1'⟩:=e1;refine W.item i s _ E (by simp;omega) ⟨⟨old,e1'⟩,e2,pl.isList⟩ λ T vals h1 tk hp hle hT hmid kp=>⟨_,rfl,?_⟩;refine W.go elts x1 tp i T ⟨h1,s.gens,s.drawn,tk,s.os⟩ _ E hmid λ h2 st2 kp2=>?_;have nT:=W.apart i T h1 hmid;obtain⟨tk',x,hx',rfl⟩:=hp
  have hxu:x=u:=by
   have:as[i]? = some x:=by simpa using hx'
   rw [hu] at this;exact(Nh this).symm
  subst hxu;have hT2:h2.IsTuple T #[.int (i:Int) tk',x]:=hT.at λ o q=>kp2 T o nT q;have I2:Inv X pins σ (upd H T (.tup [.int (i:Int),xs[i]])) { s with heap:=h2,toks:=tk }:=I.turnNew (t':=tk) (ch:=[e,it]) (λ c hc=>hf c hc) (λ c o hc q=>kp2 c o hc (kp c o hc q)) hle ⟨(show 2<=sizeLine by decide),[.int (i:Int) tk',x],.cons ⟨tk',rfl⟩ (.cons ru .nil),hT2⟩;have fr:H T=none:=I.hok.fresh hle;refine⟨.ref T,_,I2,rfl,⟨_,_,fr,rfl,hx,rfl⟩,⟨st2.1,st2.2.1⟩,λ c hc=>?_⟩
  have hlt:c < s.heap.objs.size:=by
   simp only [MU,Na,Nt] at hc
   rcases hc with rfl|rfl
   ·exact MJ e1'
   ·obtain⟨o,q,_⟩:=e2;exact MJ q
  rw [ai (MS (MN hlt hle))];exact free c hc
 done:=by
  intro X hP hw hK hc i pins s σ H E I hf st hg;subst hP hw hK;obtain⟨ha,rfl⟩:=hg;obtain⟨as,ra,pl,_⟩:=I.list (SqL.of ha);have free:∀ c∈[e,it],H c=none:=λ c h=>(hf c h).1;have nle:l ≠ e:=λ z=>by have:=free e (by simp);rw [←z,ha] at this;cases this
  have nlt:l ≠ it:=λ z=>by have:=free it (by simp);rw [←z,ha] at this;cases this
  have W:=WalksT.enumerate (prog:=X.prog) (w:=X.w) (I.ok.hd hc) e it l ne nle nlt as.toArray;have la:=ra.length;have hsz:as.toArray.size=xs.length:=by simp [la]
  obtain⟨e1,e2⟩:=st;refine W.done s _ E (by rw [hsz];exact⟨e1,e2,pl.isList⟩) λ h' tk kp=>⟨rfl,I.turnL (t':=tk) (ch:=[e,it]) (λ c hc=>hf c hc) kp⟩
 self:=λ A i s Q E st h=>by
  obtain⟨⟨old,e1⟩,e2⟩:=st;exact wpAny_pyIter_enum e1 h
def JD(l:Addr)(H:Hp)(R:It->Hp->Prop):List V->Prop:=λ xs=>R (Ite l xs) H
theorem HQ(l:Addr)(H:Hp)(R:It->Hp->Prop)(xs:List V):JD l H R xs=R (Ite l xs) H:=rfl
def IW(R:It->Hp->Prop):List V->Hp->Prop:=λ vs H=>match vs with
 | [.ref l]=>aV (aQ H l) (JD l H R)
 | _=>False
theorem HR(R:It->Hp->Prop)(l:Addr)(H:Hp):IW R [.ref l] H=aV (aQ H l) (JD l H R):=rfl
def FN(ta:TA):TI:=λ σ H R=>ta σ H (IW R)
theorem Ed(ta:TA)(σ:St)(H:Hp)(R:It->Hp->Prop):FN ta σ H R=ta σ H (IW R):=rfl
section
variable {X:Cx}
theorem CI{a:Expr}{elts:List Expr}{x1}{tp:Pos}{ta:TA}{p pos:Pos}(hg:Gl X "enumerate")(hm:X.mg "enumerate"=none)(ha:PA X [a] ta)(he:starEach [a] X.env=[(false,eval a X.env)]:=by rfl) :
  PI X (.Tuple elts x1 tp) (.Call (.Name "enumerate" p) [a] [] pos) (FN ta):=by
 intro pins s σ H R I h;refine Call_ (gj I hg hm (show bootBuiltins "enumerate"=some (.type "enumerate") by decide +kernel) (PyProof.Rows.callWith_type1 (thn (ha pos pins s σ H _ I h) λ us s1 ⟨vs,H1,I1,r1,q1⟩=>?_) (by rw [he];rfl) (by rfl)));unfold IW at q1;split at q1
 ·rename_i l;obtain⟨xs,e,q⟩:=au q1;replace e:=dh e
  cases r1 with
  | cons r rr=>
   cases rr;cases r;obtain⟨as,ra,pl,_⟩:=I1.list (SqL.of e);refine call_enumerate_list pl.isList λ h' e1 e2 e3 e4=>?_;have I2:Inv X pins σ H1 { s1 with heap:=h' }:=I1.kept (t':=s1.toks) e4;refine wpAny_pyIter_enum (s:={ s1 with heap:=h' }) e1 ⟨s1.heap.objs.size+1,[s1.heap.objs.size+1,s1.heap.objs.size],_,_,H1,rfl,I2,wq l (s1.heap.objs.size+1) s1.heap.objs.size xs (by simp),⟨⟨_,e1⟩,e2⟩,λ c hc=>?_,q⟩
   have hle:s1.heap.objs.size<=c:=by
    simp only [MU,Na,Nt] at hc
    rcases hc with rfl|rfl
    ·exact Oy ..
    ·exact MG _
   exact I1.fpOk hle (I1.hok.fresh hle)
 ·exact q1.elim
end
section
variable {g:TG}{σ:St}{Q:VK}{H:Hp}{K:PySem.W.Frag}
theorem AE{tb:TS}{nx:St->Hp->Prop}{rt:VK}{bk ct:St->Hp->Prop}{l:Addr}{xs:List V}(Pv:Nat->St->Hp->Prop)(h0:Pv 0 σ H)(hl:∀ i σ H,Pv i σ H->H l=some (.lst xs))
  (hs:∀ i u p σ H H',xs[i]? = some u->Pv i σ H->H p=none->Ext H H'->H' p=some (.tup [.int (i:Int),u])->g (.ref p) σ H' (sH tb ⟨Pv (i+1),rt,nx,Pv (i+1)⟩)) (hd:∀ σ H,Pv xs.length σ H->nx σ H):ET g tb ⟨nx,rt,bk,ct⟩ σ (Ite l xs) H:=by
 refine⟨λ i m σ H=>m=xs.length - i/\i<=xs.length/\Pv i σ H,⟨xs.length,by simp,Np _,h0⟩,?_⟩;rintro i m σ H ⟨rfl,hi,p⟩;have qa:=hl i σ H p
 by_cases hlt:i < xs.length
 ·refine .inr ⟨⟨qa,hlt⟩,Pv (i+1),λ σ' H' p'=>⟨xs.length - (i+1),by omega,rfl,hlt,p'⟩,λ x H' y=>?_⟩;obtain⟨r,u,hr,rfl,hu,rfl⟩:=y;exact hs i u r σ H _ hu p hr (Ext.new hr) aj
 ·have e:i=xs.length:=by omega
  subst e;exact .inl ⟨⟨qa,rfl⟩,hd σ H p⟩
end
section
variable {X:Cx}{CX:CXT}{k:Nat}{f C:Addr}{fd:FuncData}{ps:List Str}{sp:Sp}{dvs:List V}{ds:List Value}{E:St->XK}{x m:Str}{p pos apos:Pos}{e o:Expr}{es:List Expr}{ta:TE}{t:TA}
end
section
variable {X:Cx}{e st:Expr}{te tst:TE}{pos p2:Pos}
end
section
variable {X:Cx}
end
theorem bM{n:Nat}(h:n+64 < cLine):n+1 < cLine:=by omega
def JG(Q:VK)(x:V):VK:=λ y H=>∃ a v,x=.ref a/\uw H a y (some v)/\Q v H
def LA(ty:TE)(σ:St)(Q:VK):VK:=λ x H=>ty σ H (JG Q x)
theorem HV(ty:TE)(σ:St)(Q:VK)(x:V)(H:Hp):LA ty σ Q x H=ty σ H (JG Q x):=rfl
theorem Dm(td ty:TE)(σ:St)(H:Hp)(Q:VK):Fm td ty σ H Q=td σ H (LA ty σ Q):=rfl
theorem uI{H:Hp}{a:Addr}{kvs:List (Key × V)}{k:Key}{v:V}{Q:VK}(e:H a=some (.dK kvs))(h:ei kvs k=some v)(q:Q v H):JG Q (.ref a) (kV k) H:=⟨a,v,rfl,h ▸ uw.k e,q⟩
section
variable {X:Cx}
end
def JE(nx:St->Hp->Prop)(σ:St)(v x:V):VK:=λ y H=>∃ a H4,x=.ref a/\EZ H a y v H4/\nx σ H4
def JF(ty:TE)(nx:St->Hp->Prop)(σ:St)(v:V):VK:=λ x H=>ty σ H (JE nx σ v x)
theorem HS(ty:TE)(nx:St->Hp->Prop)(σ:St)(v x:V)(H:Hp):JF ty nx σ v x H=ty σ H (JE nx σ v x):=rfl
def Lz(td ty:TE)(nx:St->Hp->Prop)(σ:St):VK:=λ v H=>td σ H (JF ty nx σ v)
theorem HU(td ty:TE)(nx:St->Hp->Prop)(σ:St)(v:V)(H:Hp):Lz td ty nx σ v H=td σ H (JF ty nx σ v):=rfl
theorem Dr(td ty tv:TE)(nx:St->Hp->Prop)(rt:VK)(bk ct:St->Hp->Prop)(σ:St)(H:Hp):Fq td ty tv ⟨nx,rt,bk,ct⟩ σ H=tv σ H (Lz td ty nx σ):=rfl
theorem gQ{H:Hp}{a:Addr}{kvs:List (Key × V)}{k:Key}{v:V}{nx:St->Hp->Prop}{σ:St}(e:H a=some (.dK kvs))(hl:kvs.length < sizeLine)(q:nx σ (upd H a (.dK (dI kvs k v)))):JE nx σ v (.ref a) (kV k) H:=⟨a,_,rfl,EZ.k e hl,q⟩
def Fv:List V->Hp->VK->Prop:=λ vs H Q=>∃ p kvs ns,vs=[.ref p]/\H p=some (.dK kvs)/\kvs.map (·.1)=ns.map (Sum.inl:Int->Key)/\ns.length < 64/\∀ ms:List Int,ms.Perm ns->ms.Pairwise (·<=·)->jC (.lst (ms.map V.int)) H Q
theorem Cm{p:Addr}{kvs:List (Key × V)}{ns:List Int}{H:Hp}{Q:VK}(e:H p=some (.dK kvs))(hk:kvs.map (·.1)=ns.map (Sum.inl:Int->Key))(hl:ns.length < 64)(q:∀ ms:List Int,ms.Perm ns->ms.Pairwise (·<=·)->jC (.lst (ms.map V.int)) H Q):Fv [.ref p] H Q:=⟨p,kvs,ns,rfl,e,hk,hl,q⟩
theorem fX:∀ {us:List Value}{ns:List Int},us.length=ns.length->(∀ (i:Nat) (u:Value),us[i]? = some u->∃ n t,ns[i]? = some n/\u=.int n t)->IntsAre us ns
 | [],[],_,_=>.nil
 | [],_::_,h,_=>by cases h
 | _::_,[],h,_=>by cases h
 | u::us,n::ns,h,k=>by
  obtain⟨m,t,e1,rfl⟩:=k 0 u rfl;cases e1;exact .cons n t (fX (by simpa using h) λ i u e=>k (i+1) u (by simpa using e))
theorem eR:∀ {us:List Value}{ns:List Int},IntsAre us ns->bq (ns.map V.int) us
 | _,_,.nil=>.nil
 | _,_,.cons n t r=>.cons ⟨t,rfl⟩ (eR r)
theorem gN{α β:Type}{F:α->β->Prop}:∀ {l₁:List α}{l₂:List β},Paired F l₁ l₂->∀ {i:Nat}{a:α},l₁[i]? = some a->∃ b,l₂[i]? = some b/\F a b
 | _,_,.nil,i,a,h=>by simp at h
 | _,_,.cons h₁ t,0,a,h=>by cases h;exact⟨_,rfl,h₁⟩
 | _,_,.cons h₁ t,i+1,a,h=>gN t (i:=i) (by simpa using h)
section
variable {X:Cx}
theorem tY(hc:X.calm=true):bD X (.builtin "sorted") Fv:=by
 intro pins s σ H vs us Q I r h;obtain⟨p,kvs,ns,rfl,e,hk,hl,q⟩:=h
 cases r with
 | cons r rr=>
  cases rr;cases r;obtain⟨z,hd,xs,rel,dd⟩:=Ci I.hok e;obtain⟨ep,hat⟩:=dd.dictAt;have hlen:kvs.length=xs.length:=Pf rel;have hln:xs.length=ns.length:=by rw [←hlen];have:=NF List.length hk;simpa using this
  refine Calls.call_function_entry kind_sorted plain_sorted entry_sorted (args_sorted1 _) ?_;unfold Builtin.«sorted»;refine wpAny_bind (m:=checkCount "sorted" 1 1 _) (wpAny_pure ?_);refine wpAny_bind (W.kdu_collect (A:=X.A.in1) (W.kdl_dict (knd:=bz X.prog X.w) (kvs:=xs) (ep:=ep) hd) (show X.A.in1.handled=none from I.ok.hd hc) hat (by omega) λ h' tk acc kp hacc=>?_);have hal:acc.toList.length=ns.length:=by rw [Array.length_toList,hacc.1,hln]
  have hI:IntsAre acc.toList ns:=by
   refine fX hal λ i u hu=>?_;obtain⟨k,x,hx,hku⟩:=hacc.2 i u (by simpa using hu);have hi:i < kvs.length:=by rw [hlen];exact(MB.mp hx).1
   have h1:kvs[i]? = some kvs[i]:=Mx hi;obtain⟨w',hw',rw'⟩:=gN rel h1;rw [hx] at hw';cases hw';have h2:(kvs.map (·.1))[i]? = some k:=by rw [MZ,h1];exact NF some rw'.1
   rw [hk,MZ] at h2;obtain⟨n,hn,rfl⟩:=M4.mp h2
   rcases aT (show mw (Sum.inl n) u=true from hku) with ⟨j,t,e1,e2⟩|⟨j,t,e1,e2⟩
   ·cases e1;exact⟨n,t,hn,e2⟩
   ·cases e1
  refine My (wpAny_newList ?_ (by rw [hal];exact az (by omega)));have hoL:(h'.push (seqObj "list" acc.toList.toArray 0)).get? h'.objs.size=some (seqObj "list" acc.toList.toArray 0):=MO _ rfl;refine My (Ob (OG slot_list_sort ⟨_,hoL,rfl⟩ entry_list_sort (list_sort_tree hoL hI (by omega) λ out ns' a1 a2 a3=>⟨_,rfl,?_⟩) (args_list_sort _)));refine MM ⟨_,rfl,?_⟩;have I2:Inv X pins σ H { s with heap:=h',toks:=tk }:=I.kept (t':=tk) kp;have fr:=I2.hok.fresh (MG _);obtain⟨e',he'⟩:=sortedHeap_at (out:=out) hoL;refine⟨.ref h'.objs.size,_,I2.laid (t':=tk) (h':=sortedHeap (h'.push (seqObj "list" acc.toList.toArray 0)) h'.objs.size acc.toList out) (o:=.lst (ns'.map V.int)) (λ b u hb=>?_) (MG _) ⟨?_,out.toList,e',eR a1,?_⟩,rfl,q ns' a2 a3 _ _ fr (Ext.new fr) aj⟩
  ·have hb':h'.get? b=some u:=hb;have hlt:=MJ hb';rw [sortedHeap_old (MS hlt) (by rw [size_push'];exact Pp hlt)];exact Mz _ hb'
  ·rw [MK,a2.length_eq];exact az (by omega)
  ·rw [Array.toArray_toList];exact he'
end
def ES{α β:Type}(R1:α->V->Hp->Prop)(R2:β->V->Hp->Prop)(z:α × β)(x:V)(H:Hp):Prop:=∃ p q1 q2,x=.ref p/\H p=some (.tup [q1,q2])/\R1 z.1 q1 H/\R2 z.2 q2 H
theorem oP{H:Hp}{α β:Type}{R1:α->V->Hp->Prop}{R2:β->V->Hp->Prop}(h1:∀ z y H H',R1 z y H->Ext H H'->R1 z y H')(h2:∀ z y H H',R2 z y H->Ext H H'->R2 z y H'){a b:Addr}{xs ys:List V}{zs:List α}{ws:List β}(ha:H a=some (.lst xs))(hb:H b=some (.lst ys))(al:Al (λ z y=>R1 z y H) zs xs)(bl:Al (λ z y=>R2 z y H) ws ys) :
  (∀ i z H',(zs.zip ws)[i]? = some z->Ext H H'->(Itz false false a b xs ys).go i H'/\∀ x H'',(Itz false false a b xs ys).yld i H' x H''->Ext H' H''/\ES R1 R2 z x H'')/\∀ H',Ext H H'->(Itz false false a b xs ys).stop (zs.zip ws).length H':=by
 have wk:=Ba (ka:=false) (kb:=false) ha hb;refine⟨λ i z H' hz e=>?_,λ H' e=>?_⟩
 ·obtain⟨i1,i2⟩:=MB.mp hz;rw [NJ] at i1;have hx:xs[i]? = some (xs[i]'(by rw [al.1];omega)):=Mx _;have hy:ys[i]? = some (ys[i]'(by rw [bl.1];omega)):=Mx _;have g1:=al.2 i zs[i] _ (Mx _) hx;have g2:=bl.2 i ws[i] _ (Mx _) hy;generalize (xs[i]'(by rw [al.1];omega))=x0 at hx g1;generalize (ys[i]'(by rw [bl.1];omega))=y0 at hy g2
  have hzz:(xs.zip ys)[i]? = some (x0,y0):=by
   rw [Nw];exact⟨hx,hy⟩
  obtain⟨go,yd⟩:=wk.1 i _ H' hzz e;refine⟨go,λ x H'' y=>?_⟩;obtain⟨e2,p,hp,hp2⟩:=yd x H'' y;have ez:z=(zs[i],ws[i]):=by rw [←i2,Py]
  subst ez;exact⟨e2,p,x0,y0,hp,hp2,h1 _ _ _ _ g1 (e.trans e2),h2 _ _ _ _ g2 (e.trans e2)⟩
 ·have:=wk.2 H' e
  rwa [show (zs.zip ws).length=(xs.zip ys).length by rw [NJ,NJ,al.1,bl.1]]
def tV(i:Nat):TE:=λ σ H Q=>match σ[i]? with
 | some (some v)=>Q v H
 | _=>False
theorem Ff(i:Nat):II i=tV i:=by
 funext σ H Q;refine propext ⟨λ ⟨v,e,q⟩=>?_,λ h=>?_⟩
 ·unfold tV;rw [e];exact q
 ·unfold tV at h;split at h
  ·rename_i v e;exact⟨v,e,h⟩
  ·exact h.elim
theorem GS{v:V}{σ:St}{H:Hp}{Q:VK}:tV 0 (some v::σ) H Q=Q v H:=rfl
theorem GR{a0:Option V}{v:V}{σ:St}{H:Hp}{Q:VK}:tV 1 (a0::some v::σ) H Q=Q v H:=rfl
theorem GQ{a0 a1:Option V}{v:V}{σ:St}{H:Hp}{Q:VK}:tV 2 (a0::a1::some v::σ) H Q=Q v H:=rfl
theorem GP{a0 a1 a2:Option V}{v:V}{σ:St}{H:Hp}{Q:VK}:tV 3 (a0::a1::a2::some v::σ) H Q=Q v H:=rfl
theorem GO{a0 a1 a2 a3:Option V}{v:V}{σ:St}{H:Hp}{Q:VK}:tV 4 (a0::a1::a2::a3::some v::σ) H Q=Q v H:=rfl
theorem GN{a0 a1 a2 a3 a4:Option V}{v:V}{σ:St}{H:Hp}{Q:VK}:tV 5 (a0::a1::a2::a3::a4::some v::σ) H Q=Q v H:=rfl
theorem GL{a0 a1 a2 a3 a4 a5:Option V}{v:V}{σ:St}{H:Hp}{Q:VK}:tV 6 (a0::a1::a2::a3::a4::a5::some v::σ) H Q=Q v H:=rfl
theorem GK{a0 a1 a2 a3 a4 a5 a6:Option V}{v:V}{σ:St}{H:Hp}{Q:VK}:tV 7 (a0::a1::a2::a3::a4::a5::a6::some v::σ) H Q=Q v H:=rfl
theorem GJ{a0 a1 a2 a3 a4 a5 a6 a7:Option V}{v:V}{σ:St}{H:Hp}{Q:VK}:tV 8 (a0::a1::a2::a3::a4::a5::a6::a7::some v::σ) H Q=Q v H:=rfl
theorem GI{a0 a1 a2 a3 a4 a5 a6 a7 a8:Option V}{v:V}{σ:St}{H:Hp}{Q:VK}:tV 9 (a0::a1::a2::a3::a4::a5::a6::a7::a8::some v::σ) H Q=Q v H:=rfl
theorem Dh{a0 a1 a2 a3 a4 a5 a6 a7 a8 a9:Option V}{v:V}{σ:St}{H:Hp}{Q:VK}:tV 10 (a0::a1::a2::a3::a4::a5::a6::a7::a8::a9::some v::σ) H Q=Q v H:=rfl
theorem Dg{a0 a1 a2 a3 a4 a5 a6 a7 a8 a9 a10:Option V}{v:V}{σ:St}{H:Hp}{Q:VK}:tV 11 (a0::a1::a2::a3::a4::a5::a6::a7::a8::a9::a10::some v::σ) H Q=Q v H:=rfl
theorem Df{a0 a1 a2 a3 a4 a5 a6 a7 a8 a9 a10 a11:Option V}{v:V}{σ:St}{H:Hp}{Q:VK}:tV 12 (a0::a1::a2::a3::a4::a5::a6::a7::a8::a9::a10::a11::some v::σ) H Q=Q v H:=rfl
theorem De{a0 a1 a2 a3 a4 a5 a6 a7 a8 a9 a10 a11 a12:Option V}{v:V}{σ:St}{H:Hp}{Q:VK}:tV 13 (a0::a1::a2::a3::a4::a5::a6::a7::a8::a9::a10::a11::a12::some v::σ) H Q=Q v H:=rfl
theorem Dd{a0 a1 a2 a3 a4 a5 a6 a7 a8 a9 a10 a11 a12 a13:Option V}{v:V}{σ:St}{H:Hp}{Q:VK}:tV 14 (a0::a1::a2::a3::a4::a5::a6::a7::a8::a9::a10::a11::a12::a13::some v::σ) H Q=Q v H:=rfl
def nI0(g:Int->Int->V):R2:=λ x y H Q=>match x,y with
 | .int i,.int j=>Q (g i j) H
 | _,_=>False
theorem Km(g:Int->Int->V)(i j:Int)(H:Hp)(Q:VK):nI0 g (.int i) (.int j) H Q=Q (g i j) H:=rfl
theorem iJ(g:Int->Int->V):rI0 g=nI0 g:=by
 funext x y H Q;refine propext ⟨λ ⟨i,j,e,e',q⟩=>by subst e e';exact q,λ h=>?_⟩;unfold nI0 at h;split at h
 ·exact⟨_,_,rfl,rfl,h⟩
 ·exact h.elim
def nI(C:Int->Int->Prop)(g:Int->Int->V):R2:=λ x y H Q=>match x,y with
 | .int i,.int j=>C i j/\Q (g i j) H
 | _,_=>False
theorem Me(C:Int->Int->Prop)(g:Int->Int->V)(i j:Int)(H:Hp)(Q:VK):nI C g (.int i) (.int j) H Q=(C i j/\Q (g i j) H):=rfl
theorem uz(C:Int->Int->Prop)(g:Int->Int->V):rI C g=nI C g:=by
 funext x y H Q;refine propext ⟨λ ⟨i,j,e,e',q⟩=>by subst e e';exact q,λ h=>?_⟩;unfold nI at h;split at h
 ·exact⟨_,_,rfl,rfl,h⟩
 ·exact h.elim
def nU(g:Int->V):V->Hp->VK->Prop:=λ x H Q=>match x with
 | .int i=>Q (g i) H
 | _=>False
theorem Md(g:Int->V)(i:Int)(H:Hp)(Q:VK):nU g (.int i) H Q=Q (g i) H:=rfl
theorem Kb(g:Int->V):rU g=nU g:=by
 funext x H Q;refine propext ⟨λ ⟨i,e,q⟩=>by subst e;exact q,λ h=>?_⟩;unfold nU at h;split at h
 ·exact⟨_,rfl,h⟩
 ·exact h.elim
def jM(Q:Bool->Hp->Prop):VK:=λ x H=>match x with
 | .bl k=>Q k H
 | _=>False
theorem zD(Q:Bool->Hp->Prop)(k:Bool)(H:Hp):jM Q (.bl k) H=Q k H:=rfl
theorem Ak(Q:Bool->Hp->Prop):FF Q=jM Q:=by
 funext x H;refine propext ⟨λ ⟨k,e,q⟩=>by subst e;exact q,λ h=>?_⟩;unfold jM at h;split at h
 ·exact⟨_,rfl,h⟩
 ·exact h.elim
def oM(t:TE):TT:=λ σ H Q=>t σ H (jM Q)
theorem Dw(t:TE)(σ:St)(H:Hp)(Q:Bool->Hp->Prop):oM t σ H Q=t σ H (jM Q):=rfl
theorem ip(t:TE):yy t=oM t:=by
 funext σ H Q
 show t σ H (FF Q)=t σ H (jM Q)
 rw [Ak]
theorem wH(t:TE):tB t=oM t:=ip t
def uD(tb:TE)(σ:St)(Q:VK):VK:=λ x H=>match x with
 | .bl c=>if c=true then tb σ H Q else Q (.bl false) H
 | _=>False
theorem Ea(tb:TE)(σ:St)(Q:VK)(c:Bool)(H:Hp):uD tb σ Q (.bl c) H=(if c=true then tb σ H Q else Q (.bl false) H):=rfl
def B1(ta tb:TE):TE:=λ σ H Q=>ta σ H (uD tb σ Q)
theorem DE(ta tb:TE)(σ:St)(H:Hp)(Q:VK):B1 ta tb σ H Q=ta σ H (uD tb σ Q):=rfl
theorem zu(ta tb:TE):Fo ta tb=B1 ta tb:=by
 funext σ H Q
 show ta σ H (KP tb σ Q)=ta σ H (uD tb σ Q)
 congr 1;funext x H;refine propext ⟨λ ⟨k,e,q⟩=>by subst e;exact q,λ h=>?_⟩;unfold uD at h;split at h
 ·exact⟨_,rfl,h⟩
 ·exact h.elim
def E7(tb:TE)(σ:St)(Q:VK):VK:=λ x H=>match x with
 | .bl c=>if c=true then Q (.bl true) H else tb σ H Q
 | _=>False
theorem HD(tb:TE)(σ:St)(Q:VK)(c:Bool)(H:Hp):E7 tb σ Q (.bl c) H=(if c=true then Q (.bl true) H else tb σ H Q):=rfl
def Jq(ta tb:TE):TE:=λ σ H Q=>ta σ H (E7 tb σ Q)
theorem Hr(ta tb:TE)(σ:St)(H:Hp)(Q:VK):Jq ta tb σ H Q=ta σ H (E7 tb σ Q):=rfl
theorem Dc(ta tb:TE):K6 ta tb=Jq ta tb:=by
 funext σ H Q
 show ta σ H (Mj tb σ Q)=ta σ H (E7 tb σ Q)
 congr 1;funext x H;refine propext ⟨λ ⟨k,e,q⟩=>by subst e;exact q,λ h=>?_⟩;unfold E7 at h;split at h
 ·exact⟨_,rfl,h⟩
 ·exact h.elim
def uA(Q:VK):VK:=λ x H=>match x with
 | .bl c=>Q (.bl (!c)) H
 | _=>False
theorem DS(Q:VK)(c:Bool)(H:Hp):uA Q (.bl c) H=Q (.bl (!c)) H:=rfl
def BY(ta:TE):TE:=λ σ H Q=>ta σ H (uA Q)
theorem Dy(ta:TE)(σ:St)(H:Hp)(Q:VK):BY ta σ H Q=ta σ H (uA Q):=rfl
theorem zr(ta:TE):Fi ta=BY ta:=by
 funext σ H Q
 show ta σ H (KJ Q)=ta σ H (uA Q)
 congr 1;funext x H;refine propext ⟨λ ⟨k,e,q⟩=>by subst e;exact q,λ h=>?_⟩;unfold uA at h;split at h
 ·exact⟨_,rfl,h⟩
 ·exact h.elim
def sG(r':R2)(tc:TE)(σ:St)(y:V)(Q:VK):VK:=λ z H=>match z with
 | .bl k=>if k=true then tc σ H (IX r' y Q) else Q (.bl false) H
 | _=>False
theorem D7(r':R2)(tc:TE)(σ:St)(y:V)(Q:VK)(k:Bool)(H:Hp):sG r' tc σ y Q (.bl k) H=(if k=true then tc σ H (IX r' y Q) else Q (.bl false) H):=rfl
theorem Ek(r':R2)(tc:TE)(σ:St)(y:V)(Q:VK):JH r' tc σ y Q=sG r' tc σ y Q:=by
 funext z H;refine propext ⟨λ ⟨k,e,q⟩=>by subst e;exact q,λ h=>?_⟩;unfold sG at h;split at h
 ·exact⟨_,rfl,h⟩
 ·exact h.elim
def yG(r r':R2)(tc:TE)(σ:St)(x:V)(Q:VK):VK:=λ y H=>r x y H (sG r' tc σ y Q)
theorem D8(r r':R2)(tc:TE)(σ:St)(x y:V)(Q:VK)(H:Hp):yG r r' tc σ x Q y H=r x y H (sG r' tc σ y Q):=rfl
def yH(r r':R2)(tb tc:TE)(σ:St)(Q:VK):VK:=λ x H=>tb σ H (yG r r' tc σ x Q)
theorem D9(r r':R2)(tb tc:TE)(σ:St)(Q:VK)(x:V)(H:Hp):yH r r' tb tc σ Q x H=tb σ H (yG r r' tc σ x Q):=rfl
def qz(r r':R2)(ta tb tc:TE):TE:=λ σ H Q=>ta σ H (yH r r' tb tc σ Q)
theorem zC(r r':R2)(ta tb tc:TE)(σ:St)(H:Hp)(Q:VK):qz r r' ta tb tc σ H Q=ta σ H (yH r r' tb tc σ Q):=rfl
theorem mU(r r':R2)(ta tb tc:TE):uL r r' ta tb tc=qz r r' ta tb tc:=by
 funext σ H Q
 show ta σ H (Ml r r' tb tc σ Q)=ta σ H (yH r r' tb tc σ Q)
 congr 1;funext x H1
 show tb σ H1 (LB r r' tc σ x Q)=tb σ H1 (yG r r' tc σ x Q)
 congr 1;funext y H2
 show r x y H2 (JH r' tc σ y Q)=r x y H2 (sG r' tc σ y Q)
 rw [Ek]
def yK:TGs:=λ vs σ H Q=>match vs with
 | []=>Q σ H
 | _=>False
theorem Ee(σ:St)(H:Hp)(Q:St->Hp->Prop):yK [] σ H Q=Q σ H:=rfl
theorem Eo:LO=yK:=by
 funext vs σ H Q;refine propext ⟨λ ⟨e,q⟩=>by subst e;exact q,λ h=>?_⟩;unfold yK at h;split at h
 ·exact⟨rfl,h⟩
 ·exact h.elim
def qG(t:TG)(u:TGs):TGs:=λ vs σ H Q=>match vs with
 | v::r=>t v σ H (kGs u r Q)
 | _=>False
theorem zM(t:TG)(u:TGs)(v:V)(r:List V)(σ:St)(H:Hp)(Q:St->Hp->Prop):qG t u (v::r) σ H Q=t v σ H (kGs u r Q):=rfl
theorem AB(t:TG)(u:TGs):FO t u=qG t u:=by
 funext vs σ H Q;refine propext ⟨λ ⟨v,r,e,q⟩=>by subst e;exact q,λ h=>?_⟩;unfold qG at h;split at h
 ·exact⟨_,_,rfl,h⟩
 ·exact h.elim
theorem qk{α0:Type}{f:α0->List V}{B:α0->Prop}(inj:∀ a a',f a=f a'->a=a')(a:α0):(∃ a',f a=f a'/\B a')=B a:=propext ⟨λ ⟨a',e,q⟩=>by obtain rfl:=inj _ _ e;exact q,λ q=>⟨a,rfl,q⟩⟩
theorem oF{α0:Type}{f:α0->List V}{B:α0->Prop}{vs:List V}{n:Nat}(h:∃ a,vs=f a/\B a)(l:∀ a,(f a).length=n):vs.length=n:=by
 obtain⟨_,rfl,_⟩:=h;exact l _
theorem qj{α0 α1:Type}{f:α0->α1->List V}{B:α0->α1->Prop}(inj:∀ a b a' b',f a b=f a' b'->a=a'/\b=b')(a:α0)(b:α1):(∃ a' b',f a b=f a' b'/\B a' b')=B a b:=propext ⟨λ ⟨a',b',e,q⟩=>by obtain⟨rfl,rfl⟩:=inj _ _ _ _ e;exact q,λ q=>⟨a,b,rfl,q⟩⟩
theorem qm{α0 α1:Type}{f:α0->α1->List V}{B:α0->α1->Prop}{vs:List V}{n:Nat}(h:∃ a b,vs=f a b/\B a b)(l:∀ a b,(f a b).length=n):vs.length=n:=by
 obtain⟨_,_,rfl,_⟩:=h;exact l _ _
theorem qi{α0 α1 α2:Type}{f:α0->α1->α2->List V}{B:α0->α1->α2->Prop}(inj:∀ a b c a' b' c',f a b c=f a' b' c'->a=a'/\b=b'/\c=c')(a:α0)(b:α1)(c:α2):(∃ a' b' c',f a b c=f a' b' c'/\B a' b' c')=B a b c:=propext ⟨λ ⟨a',b',c',e,q⟩=>by obtain⟨rfl,rfl,rfl⟩:=inj _ _ _ _ _ _ e;exact q,λ q=>⟨a,b,c,rfl,q⟩⟩
theorem ql{α0 α1 α2:Type}{f:α0->α1->α2->List V}{B:α0->α1->α2->Prop}{vs:List V}{n:Nat}(h:∃ a b c,vs=f a b c/\B a b c)(l:∀ a b c,(f a b c).length=n):vs.length=n:=by
 obtain⟨_,_,_,rfl,_⟩:=h;exact l _ _ _
theorem BI{α0 α1 α2 α3:Type}{f:α0->α1->α2->α3->List V}{B:α0->α1->α2->α3->Prop}(inj:∀ a b c d a' b' c' d',f a b c d=f a' b' c' d'->a=a'/\b=b'/\c=c'/\d=d')(a:α0)(b:α1)(c:α2)(d:α3):(∃ a' b' c' d',f a b c d=f a' b' c' d'/\B a' b' c' d')=B a b c d:=propext ⟨λ ⟨a',b',c',d',e,q⟩=>by obtain⟨rfl,rfl,rfl,rfl⟩:=inj _ _ _ _ _ _ _ _ e;exact q,λ q=>⟨a,b,c,d,rfl,q⟩⟩
theorem BJ{α0 α1 α2 α3:Type}{f:α0->α1->α2->α3->List V}{B:α0->α1->α2->α3->Prop}{vs:List V}{n:Nat}(h:∃ a b c d,vs=f a b c d/\B a b c d)(l:∀ a b c d,(f a b c d).length=n):vs.length=n:=by
 obtain⟨_,_,_,_,rfl,_⟩:=h;exact l _ _ _ _
theorem Jg{α0 α1 α2 α3 α4:Type}{f:α0->α1->α2->α3->α4->List V}{B:α0->α1->α2->α3->α4->Prop}(inj:∀ a b c d i a' b' c' d' i',f a b c d i=f a' b' c' d' i'->a=a'/\b=b'/\c=c'/\d=d'/\i=i')(a:α0)(b:α1)(c:α2)(d:α3)(i:α4):(∃ a' b' c' d' i',f a b c d i=f a' b' c' d' i'/\B a' b' c' d' i')=B a b c d i:=propext ⟨λ ⟨a',b',c',d',i',e,q⟩=>by obtain⟨rfl,rfl,rfl,rfl,rfl⟩:=inj _ _ _ _ _ _ _ _ _ _ e;exact q,λ q=>⟨a,b,c,d,i,rfl,q⟩⟩
theorem Jh{α0 α1 α2 α3 α4:Type}{f:α0->α1->α2->α3->α4->List V}{B:α0->α1->α2->α3->α4->Prop}{vs:List V}{n:Nat}(h:∃ a b c d i,vs=f a b c d i/\B a b c d i)(l:∀ a b c d i,(f a b c d i).length=n):vs.length=n:=by
 obtain⟨_,_,_,_,_,rfl,_⟩:=h;exact l _ _ _ _ _
theorem Mg{P:List Value->Prop}(h:P []):∀ us:List Value,us.length=0->P us:=λ us e=>by
 cases us with
 | nil=>exact h
 | cons a r=>cases e
theorem kf{P:List Value->Prop}(h:∀ a,P [a]):∀ us:List Value,us.length=1->P us:=λ us e=>by
 cases us with
 | nil=>cases e
 | cons x r=>exact Mg (P:=λ r=>P (x::r)) (h x) r (O9 e)
theorem oG{P:List Value->Prop}(h:∀ a b,P [a,b]):∀ us:List Value,us.length=2->P us:=λ us e=>by
 cases us with
 | nil=>cases e
 | cons x r=>exact kf (P:=λ r=>P (x::r)) (h x) r (O9 e)
theorem sE{P:List Value->Prop}(h:∀ a b c,P [a,b,c]):∀ us:List Value,us.length=3->P us:=λ us e=>by
 cases us with
 | nil=>cases e
 | cons x r=>exact oG (P:=λ r=>P (x::r)) (h x) r (O9 e)
theorem yt{P:List Value->Prop}(h:∀ a b c d,P [a,b,c,d]):∀ us:List Value,us.length=4->P us:=λ us e=>by
 cases us with
 | nil=>cases e
 | cons x r=>exact sE (P:=λ r=>P (x::r)) (h x) r (O9 e)
theorem Jt{P:List Value->Prop}(h:∀ a b c d i,P [a,b,c,d,i]):∀ us:List Value,us.length=5->P us:=λ us e=>by
 cases us with
 | nil=>cases e
 | cons x r=>exact yt (P:=λ r=>P (x::r)) (h x) r (O9 e)
section
variable {X:Cx}
theorem pvN(i:Nat){x:Str}{pos:Pos}(hN:X.N[i]? = some x:=by rfl)(hv:Vis X.env.scope x:=by first|exact Or.inl rfl|exact Or.inr (Or.inl rfl)|exact Or.inr (Or.inr rfl))(hd:(x == ("__debug__":Str))=false:=by decide)
  (hcd:(x == ("__classdict__":Str))=false:=by decide):PE X (.Name x pos) (tV i):=by rw [←Ff];exact pv i hN hv hd hcd
theorem aD:OpR X (binaryOp .Add) (nI0 λ i j=>.int (i+j)):=by rw [←iJ];exact qy
theorem aB:OpR X (binaryOp .Sub) (nI0 λ i j=>.int (i - j)):=by rw [←iJ];exact Gx
theorem eo:OpR X (compareOp .Lt) (nI0 λ i j=>.bl (decide (i < j))):=by rw [←iJ];exact Fx
theorem iF:OpR X (compareOp .LtE) (nI0 λ i j=>.bl (decide (i<=j))):=by rw [←iJ];exact J2
theorem dz:OpR X (compareOp .Gt) (nI0 λ i j=>.bl (decide (j < i))):=by rw [←iJ];exact Fy
theorem Fz:OpR X (compareOp .GtE) (nI0 λ i j=>.bl (decide (j<=i))):=by rw [←iJ];exact J4
theorem bO:OpR X (binaryOp .Mult) (nI iE λ i j=>.int (i * j)):=by rw [←uz];exact gS
theorem cS:OpR X (binaryOp .FloorDiv) (nI JS λ i j=>.int (i / j)):=by rw [←uz];exact C7
theorem il:OpR X (binaryOp .FloorDiv) (nI sJ λ i j=>.int (i.fdiv j)):=by rw [←uz];exact zo
theorem br:OpR X (binaryOp .Mod) (nI (λ _ j=>0 < j) λ i j=>.int (i % j)):=by rw [←uz];exact iI
theorem fD:OpR X (binaryOp .Pow) (nI JR λ i j=>.int (i ^ j.toNat)):=by rw [←uz];exact Gy
theorem oS:UnR X (unaryOp .USub) (nU λ i=>.int (-i)):=by rw [←Kb];exact FV
variable {a b c d e:Expr}{ta tb tc td t:TE}{pos:Pos}
theorem y8{op:CmpOp}{r:R2}(ho:OpR X (compareOp op) r)(ha:PE X a ta)(hb:PE X b tb)(hm:behindInMarks op b=false):PT X (.Compare a [op] [b] pos) (oM (tOp r ta tb)):=by rw [←ip];exact pD ho ha hb hm
theorem CD(h:PE X e t)(he:∀ whole,isTrue e X.env whole=(do let v ←whole;standAt e.pos;holding [v] (truthy v)):=by intro _;rfl):PT X e (oM t):=by rw [←wH];exact Gf h he
theorem wB{op op':CmpOp}{r r':R2}(ho:OpR X (compareOp op) r)(ho':OpR X (compareOp op') r')(ha:PE X a ta)(hb:PE X b tb)(hc:PE X c tc)
  (hm:lastMarks [op,op'] [b,c]=false:=by with_unfolding_all rfl):PE X (.Compare a [op,op'] [b,c] pos) (qz r r' ta tb tc):=by rw [←mU];exact zk ho ho' ha hb hc hm
theorem i8{op op':CmpOp}{r r':R2}(ho:OpR X (compareOp op) r)(ho':OpR X (compareOp op') r')(ha:PE X a ta)(hb:PE X b tb)(hc:PE X c tc)
  (hm:lastMarks [op,op'] [b,c]=false:=by with_unfolding_all rfl):PT X (.Compare a [op,op'] [b,c] pos) (oM (qz r r' ta tb tc)):=by rw [←ip,←mU];exact y9 ho ho' ha hb hc hm
variable {rest:List Expr}
theorem CT(ha:PE X a ta)(hb:PE X (.BoolOp .And (b::rest) pos) tb):PE X (.BoolOp .And (a::b::rest) pos) (B1 ta tb):=by rw [←zu];exact Gw ha hb
theorem Bq(ha:PE X a ta)(hb:PE X (.BoolOp .Or (b::rest) pos) tb):PE X (.BoolOp .Or (a::b::rest) pos) (Jq ta tb):=by rw [←Dc];exact JZ ha hb
theorem vI(ha:PE X a ta):PE X (.UnaryOp .Not a pos) (BY ta):=by rw [←zr];exact Gv ha
theorem aw:PGs X [] yK:=by rw [←Eo];exact CK
theorem wA{e:Expr}{es:List Expr}{t:TG}{u:TGs}(h1:PG X e t)(h2:PGs X es u)
  (hs:(assignEach (e::es) X.env).map (·.2)=assign e X.env::(assignEach es X.env).map (·.2):=by rfl):PGs X (e::es) (qG t u):=by rw [←AB];exact za h1 h2 hs
end
theorem iK{c:TT}{t u:TS}{nx:St->Hp->Prop}{rt:VK}{bk ct:St->Hp->Prop}{σ:St}{H:Hp}(R:St->Hp->Prop)(h:∀ nx':St->Hp->Prop,(∀ σ' H',R σ' H'->nx' σ' H')->IJ c t u ⟨nx',rt,bk,ct⟩ σ H)(k:∀ σ' H',R σ' H'->nx σ' H'):IJ c t u ⟨nx,rt,bk,ct⟩ σ H:=h nx k
theorem B2{i:Nat}:ME (tV i):=by rw [←Ff];exact qA
theorem vd{g:Int->Int->V}:MR (nI0 g):=by rw [←iJ];exact qB
theorem lq{t:TE}(h:ME t):MT (oM t):=by rw [←ip];exact kF h
theorem AN(xs:List V)(z:Int)(h:0<=z):kg xs (some z) none=xs.drop z.toNat:=by
 unfold kg;obtain⟨n,rfl⟩:=Int.eq_ofNat_of_zero_le h;rw [HT.sIx_none,HT.sIx_nat]
 show _=xs.drop n
 rcases Px n xs.length with q|q
 ·rw [Pa q];exact NC (by rw [Pd];omega)
 ·rw [OZ q,Ot (MG _),Ot q,List.take_nil]
section
variable {X:Cx}
end
section
variable {prog:Program}{w:World}{A:Around}{E:Value->Shared->Prop}{s:Shared}
end
section
variable {X:Cx}
end
section
variable {k:Nat}{g:TG}{tt:TT}{te:TE}{σ:St}{Q:VK}{H:Hp}
end
structure IsC(K:W.Frag)(C:Addr):Prop where
 cl:Cls K C
 fc:W.findIn K (.ref C) "__class__"=some (some (.builtin "object.__class__"))
 ocs:W.specialIn K (.builtin "object.__class__") "__get__"=some (some (.builtin "getset_descriptor.__get__"))
 oct:W.takesIn K (.builtin "object.__class__")=some true
 mo:W.mroIn K C (.type "object")=some true
section
variable {X:Cx}
end
section
variable {prog:Program}{w:World}{A:Around}{E:Value->Shared->Prop}{K:Frag}{x C dx:Addr}{s:Shared}{name:Str}{v:Value}
end
section
variable {X:Cx}{e o value:Expr}{ta tv:TE}{f:Str}{pos pos':Pos}
end
open Sem (wp)
open AutoSeq1 (wpAny_loadPart')
section
variable {X:Cx}
end
def FR(o:Obj):Prop:=∃ vs,o.data=.fields vs/\vs[2]? = some .none
section
variable {prog:Program}{w:World}{A:Around}{E:Value->Shared->Prop}{s:Shared}
end
def LU(X:Cx):Prop:=∃ (e:Addr) (oe:Obj) (u:HO),X.A.handled=some (.ref e)/\X.H₀ e=some (.frz oe u)/\FR oe
structure Mt(P:Program)(w:World)(K:W.Frag)(tg:Expr)(J:It)(fp:List Addr)(it:Addr)(tn:Nat->Heap->Prop):Prop where
 mem:it∈fp
 obj:∀ i h,tn i h->∀ b∈fp,∃ o,h.get? b=some o/\∀ v,o.data ≠ .cell v
 keep:∀ i h h',tn i h->(∀ b∈fp,∀ o,h.get? b=some o->h'.get? b=some o)->tn i h'
 item:∀ (X:Cx),X.prog=P->X.w=w->X.K=K->LU X->∀ (i:Nat) (pins:List (Addr × Obj)) (s:Shared) (σ:St) (H:Hp) (E:Value->Shared->Prop),Inv X pins σ H s->(∀ b∈fp,oI X pins H b)->tn i s.heap->J.go i H →
  wpAny (model P w) X.A (pyNext (.ref it)) (λ r s1=>∃ u,r=some u /\
   wpAny (model P w) X.A (letOwnedTupleGo tg (.ref it) u) (λ _ s2=>∃ x H',Inv X pins σ H' s2/\bF x u/\J.yld i H x H'/\tn (i+1) s2.heap/\∀ b∈fp,H' b=none) E s1) E s
 done:∀ (X:Cx),X.prog=P->X.w=w->X.K=K->LU X->∀ (i:Nat) (pins:List (Addr × Obj)) (s:Shared) (σ:St) (H:Hp) (E:Value->Shared->Prop),Inv X pins σ H s->(∀ b∈fp,oI X pins H b)->tn i s.heap->J.stop i H →
  wpAny (model P w) X.A (pyNext (.ref it)) (λ r s1=>r=none/\Inv X pins σ H s1) E s
section
variable {X:Cx}{tg:Expr}
end
structure KZ(k:Nat)(e:Addr)(A:Around):Prop where
 hd:A.handled=some (.ref e)
 dp:A.depth+3 * k+5 < recursionLimit
 un:A.units+16 * k+200 < cLine
structure Mv(P:Program)(w:World)(K:W.Frag)(mg:Str->Option Value)(base:Heap)(CX:CXT)(k:Nat)(f:Addr)(fd:FuncData)(ps:List Str)(sp:Sp):Prop where
 len:∀ vs H Q E,sp vs H Q E->vs.length=ps.length
 run:∀ (A:Around) (outer:List Env) (s:Shared) (H:Hp) (args:Args) (us:List Value) (vs:List V) (Q:VK) (E:XK) (e:Addr) (oe:Obj) (u:HO),KZ k e A->H e=some (.frz oe u)->FR oe->A9 P w K mg base A outer s H->BindsTo s fd args (ps.zip us)->bq vs us->sp vs H Q E →
  codeAny (model P w) A (.call (.ref f) args) (CR CX outer P w H s Q E) s
section
variable {X:Cx}
end
section
variable {prog:Program}{w:World}{A:Around}{E:Value->Shared->Prop}{s:Shared}
structure LZ(z TI TO i j l:Addr)(f g e:List Addr):Prop where
 ti:TI ≠ z/\TI ≠ TO/\TI ≠ i/\TI ≠ j/\TI ≠ l
 zt:z ≠ TO
 zf:z ∉ f
 zg:z ∉ g
 ze:z ∉ e
 tf:TO ∉ f
 tg:TO ∉ g
 te:TO ∉ e
 ig:i ∉ g
 ie:i ∉ e
 jf:j ∉ f
 je:j ∉ e
 lf:l ∉ f
 lg:l ∉ g
variable {z TI TO i j l:Addr}{f g e:List Addr}{ti tj tl:Nat->Heap->Prop}{vi vj vl:Nat->Option Value}{k m n:Nat}{x y u a b c:Value}
end
section
variable {prog:Program}{w:World}{A:Around}{E:Value->Shared->Prop}{s:Shared}
end
section
variable {X:Cx}
end
def JA(Q:VK)(a:Addr)(y:V):VK:=λ z H=>∃ o,uw H a y o/\Q (o.getD z) H
def JB(tx:TE)(σ:St)(Q:VK)(a:Addr):VK:=λ y H=>tx σ H (JA Q a y)
theorem HM(tx:TE)(σ:St)(Q:VK)(a:Addr)(y:V)(H:Hp):JB tx σ Q a y H=tx σ H (JA Q a y):=rfl
def Ly(ty tx:TE)(σ:St)(Q:VK):VK:=λ x H=>∃ a,x=.ref a/\IsD H a/\ty σ H (JB tx σ Q a)
theorem zy(td ty tx:TE)(σ:St)(H:Hp)(Q:VK):Bf td ty tx σ H Q=td σ H (Ly ty tx σ Q):=rfl
theorem fM{ty tx:TE}{σ:St}{Q:VK}{H:Hp}{a:Addr}{kvs:List (Key × V)}(e:H a=some (.dK kvs))(q:ty σ H (JB tx σ Q a)):Ly ty tx σ Q (.ref a) H:=⟨a,rfl,.inl ⟨kvs,.inl e⟩,q⟩
theorem iH{Q:VK}{H:Hp}{a:Addr}{kvs:List (Key × V)}{k:Key}{z:V}(e:H a=some (.dK kvs))(q:Q ((ei kvs k).getD z) H):JA Q a (kV k) z H:=⟨_,uw.k e,q⟩
def Le(neg:Bool):R2:=λ x y H Q=>∃ d ds,fJ H 6 x=some d/\fJ H 6 y=some (.list ds)/\Q (.bl (if neg=true then !(ds.any λ y=>PyData.eqv y d) else ds.any λ y=>PyData.eqv y d)) H
section
variable {X:Cx}
theorem zP{ds:List PyData}(h:(PyData.list ds).canLay0=true):PyData.canLayAll0 ds=true:=by simpa [PyData.canLay0] using h
theorem GB(hu:X.A.units+64 < cLine):OpR X (compareOp .In) (Le false):=by
 intro pins s σ H x y v u Q I rx ry h;obtain⟨d,ds,e1,e2,q⟩:=h;obtain⟨a,b,c⟩:=iR (K:=X.K) 6 x d e1;obtain⟨a',b',c'⟩:=iR (K:=X.K) 6 y _ e2;obtain⟨as,z⟩:=a.reads I rx;obtain⟨bs,z'⟩:=a'.reads I ry;exact SeqAt.in_list_reads z' z (zP b') b (by have:=Nat.min_le_right (PyData.depthAll ds) d.depth;omega) ⟨.bl _,H,I,rfl,q⟩
end
def BH(X:Cx)(f:Value)(ks:List Str)(r:List V->List V->Hp->VK->Prop):Prop:=∀ pins s σ H vs us zs ws Q,Inv X pins σ H s->bq vs us->bq zs ws->r vs zs H Q->wpAny (model X.prog X.w) X.A (call f us (ks.zip ws)) (EP X pins σ Q) X.xe s
def JM(r:List V->List V->Hp->VK->Prop)(Q:VK)(vs:List V):List V->Hp->Prop:=λ zs H=>r vs zs H Q
theorem Ib(r:List V->List V->Hp->VK->Prop)(Q:VK)(vs zs:List V)(H:Hp):JM r Q vs zs H=r vs zs H Q:=rfl
def JN(r:List V->List V->Hp->VK->Prop)(tk:TA)(σ:St)(Q:VK):List V->Hp->Prop:=λ vs H=>tk σ H (JM r Q vs)
theorem Ic(r:List V->List V->Hp->VK->Prop)(tk:TA)(σ:St)(Q:VK)(vs:List V)(H:Hp):JN r tk σ Q vs H=tk σ H (JM r Q vs):=rfl
def K9(r:List V->List V->Hp->VK->Prop)(t tk:TA):TE:=λ σ H Q=>t σ H (JN r tk σ Q)
theorem G0(r:List V->List V->Hp->VK->Prop)(t tk:TA)(σ:St)(H:Hp)(Q:VK):K9 r t tk σ H Q=t σ H (JN r tk σ Q):=rfl
theorem mO{X:Cx}{id:String}{x:Str}{p pos:Pos}{e:Expr}{es:List Expr}{kws:List Keyword}{ks:List Str}{r:List V->List V->Hp->VK->Prop}{t tk:TA}(hc:BH X (.builtin id) ks r)(hg:Gl X x)(hm:X.mg x=none)(hv:bootBuiltins x=some (.builtin id))(ha:PA X (e::es) t)(hk:PK X kws tk)(hn:x ≠ "__name__":=by decide)(hdb:(x == ("__debug__":Str))=false:=by decide)
  (hks:(backToKw pos (keywordEach kws X.env)).filterMap (·.1)=ks:=by rfl)
  (h1:backTo pos (starEach (e::es) X.env)=(false,eval e X.env)::backTo pos (starEach es X.env):=by rfl)
  (h2:(backTo pos (starEach (e::es) X.env)).any (·.1)=false:=by rfl)
  (h3:(backToKw pos (keywordEach kws X.env)).all (·.1.isSome)=true:=by rfl)
  (h4:(backToKw pos (keywordEach kws X.env)).any (·.1.isNone)=false:=by rfl):PE X (.Call (.Name x p) (e::es) kws pos) (K9 r t tk):=by
 intro pins s σ H Q I h;refine NY (gj I hg hm hv ?_ hn hdb);refine callWith_kw (thn (ha pos pins s σ H _ I h) λ us s1 ⟨vs,H1,I1,r1,q1⟩=>thn (hk pos pins s1 σ H1 _ I1 q1) λ ws s2 ⟨zs,H2,I2,r2,q2⟩=>?_) h1 h2 h3 h4;rw [hks];exact hc pins s2 σ H2 vs us zs ws Q I2 r1 r2 q2
section
variable {prog:Program}{w:World}{A:Around}{R:Result->Shared->Prop}{J:Addr}{fp wr:List Addr}{G:Array GenState->Array GenState->Prop}{n:Nat}{P:Nat->Value->Prop}{St:Nat->Shared->Prop}
end
section
variable {prog:Program}{w:World}{A:Around}{R:Result->Shared->Prop}{J:Addr}{fp wr:List Addr}{G:Array GenState->Array GenState->Prop}{n:Nat}{P:Nat->Value->Prop}{St:Nat->Shared->Prop}
end
abbrev PKy:=List Int × List Int
section
variable {prog:Program}{w:World}
end
section
variable {P:Program}{w:World}{H:Hp}{h:Heap}{a:Addr}
end
section
variable {X:Cx}{pins:List (Addr × Obj)}{σ:St}{H:Hp}{s:Shared}{d b:Addr}{k:PKy}{Z:List PKy}{A:Around}{E:Value->Shared->Prop}
end
section
variable {X:Cx}
end
theorem vG{X:Cx}{tg l:Expr}{tl:TE}{K:W.Frag}(hK:X.K=K)(hl:PE X l tl):PI X tg l (JO K tl):=by subst hK;exact Bo hl
section
variable {X:Cx}{e st:Expr}{te tst:TE}{pos p2:Pos}
end
def Fu:List V->List V->Hp->VK->Prop:=λ vs zs H Q=>∃ p kvs ns,vs=[.ref p]/\zs=[.bl true]/\H p=some (.dK kvs)/\kvs.map (·.1)=ns.map (Sum.inl:Int->Key)/\ns.length < 64/\∀ ms:List Int,ms.Perm ns->ms.Pairwise (· >= ·)->jC (.lst (ms.map V.int)) H Q
theorem yP{p:Addr}{kvs:List (Key × V)}{ns:List Int}{H:Hp}{Q:VK}(e:H p=some (.dK kvs))(hk:kvs.map (·.1)=ns.map (Sum.inl:Int->Key))(hl:ns.length < 64)(q:∀ ms:List Int,ms.Perm ns->ms.Pairwise (· >= ·)->jC (.lst (ms.map V.int)) H Q):Fu [.ref p] [.bl true] H Q:=⟨p,kvs,ns,rfl,rfl,e,hk,hl,q⟩
section
variable {X:Cx}
theorem jW(hc:X.calm=true):BH X (.builtin "sorted") ["reverse"] Fu:=by
 intro pins s σ H vs us zs ws Q I r rz h;obtain⟨p,kvs,ns,rfl,rfl,e,hk,hl,q⟩:=h
 cases rz with
 | cons rb rz=>
 cases rz;cases rb
 cases r with
 | cons r rr=>
  cases rr;cases r;obtain⟨z,hd,xs,rel,dd⟩:=Ci I.hok e;obtain⟨ep,hat⟩:=dd.dictAt;have hlen:kvs.length=xs.length:=Pf rel;have hln:xs.length=ns.length:=by rw [←hlen];have:=NF List.length hk;simpa using this
  show wpAny (model X.prog X.w) X.A (call (.builtin "sorted") [.ref p] [(Str.ofString "reverse",.bool true)]) _ _ _
  refine call_function_entry_kw kind_sorted plain_sorted entry_sorted (args_sorted_rev _ _) ?_;unfold Builtin.«sorted»;refine wpAny_bind (m:=checkCount "sorted" 1 1 _) (wpAny_pure ?_);refine wpAny_bind (W.kdu_collect (A:=X.A.in1) (W.kdl_dict (knd:=bz X.prog X.w) (kvs:=xs) (ep:=ep) hd) (show X.A.in1.handled=none from I.ok.hd hc) hat (by omega) λ h' tk acc kp hacc=>?_);have hal:acc.toList.length=ns.length:=by rw [Array.length_toList,hacc.1,hln]
  have hI:IntsAre acc.toList ns:=by
   refine fX hal λ i u hu=>?_;obtain⟨k,x,hx,hku⟩:=hacc.2 i u (by simpa using hu);have hi:i < kvs.length:=by rw [hlen];exact(MB.mp hx).1
   have h1:kvs[i]? = some kvs[i]:=Mx hi;obtain⟨w',hw',rw'⟩:=gN rel h1;rw [hx] at hw';cases hw';have h2:(kvs.map (·.1))[i]? = some k:=by rw [MZ,h1];exact NF some rw'.1
   rw [hk,MZ] at h2;obtain⟨n,hn,rfl⟩:=M4.mp h2
   rcases aT (show mw (Sum.inl n) u=true from hku) with ⟨j,t,e1,e2⟩|⟨j,t,e1,e2⟩
   ·cases e1;exact⟨n,t,hn,e2⟩
   ·cases e1
  refine My (wpAny_newList ?_ (by rw [hal];exact az (by omega)));have hoL:(h'.push (seqObj "list" acc.toList.toArray 0)).get? h'.objs.size=some (seqObj "list" acc.toList.toArray 0):=MO _ rfl;refine My (Ob (wpAny_call_entry_kw slot_list_sort ⟨_,hoL,rfl⟩ entry_list_sort (list_sort_tree_rev hoL hI (by omega) λ out ns' a1 a2 a3=>⟨_,rfl,?_⟩) (args_list_sort_rev _ _)));refine MM ⟨_,rfl,?_⟩;have I2:Inv X pins σ H { s with heap:=h',toks:=tk }:=I.kept (t':=tk) kp;have fr:=I2.hok.fresh (MG _);obtain⟨e',he'⟩:=sortedHeap_at (out:=out) hoL;refine⟨.ref h'.objs.size,_,I2.laid (t':=tk) (h':=sortedHeap (h'.push (seqObj "list" acc.toList.toArray 0)) h'.objs.size acc.toList out) (o:=.lst (ns'.map V.int)) (λ b u hb=>?_) (MG _) ⟨?_,out.toList,e',eR a1,?_⟩,rfl,q ns' a2 a3 _ _ fr (Ext.new fr) aj⟩
  ·have hb':h'.get? b=some u:=hb;have hlt:=MJ hb';rw [sortedHeap_old (MS hlt) (by rw [size_push'];exact Pp hlt)];exact Mz _ hb'
  ·rw [MK,a2.length_eq];exact az (by omega)
  ·rw [Array.toArray_toList];exact he'
end
end L2
namespace PH
open PySem L2
def vi:V->Int
 | .int i=>i
 | _=>0
theorem iC{α:Type}(l:List α):(l.filter λ _=>true)=l:=List.filter_eq_self.mpr λ _ _=>rfl
def af(a:Int × Int):Int × Int:=(a.1,if a.1 > 1 then a.2 else 0)
def axL(axs:List (Int × Int)):List (List Int):=axs.map λ a=>[a.1,a.2]
def bP(axs:List (Int × Int)):Int:=(axs.map λ a=>min 0 ((a.1 - 1) * a.2)).sum
def bQ(axs:List (Int × Int)):Int:=(axs.map λ a=>max 0 ((a.1 - 1) * a.2)).sum
def mn(axs:List (Int × Int)):Prop:=axs.length<=8/\∀ a∈axs,1<=a.1/\a.1<=1000000000
structure mG(room first:Int)(axs:List (Int × Int)):Prop where
 ax:mn axs
 r1:1<=room
 r2:room<=1000000000000000000
 lo:0<=first+bP (axs.map af)
 hi:first+bQ (axs.map af) < room
theorem mn.kept{axs:List (Int × Int)}(h:mn axs):mn (axs.map af):=⟨by rw [MK];exact h.1,λ a ha=>by
 obtain⟨b,hb,rfl⟩:=M9.mp ha;exact h.2 b hb⟩
def eK(room first:Int)(l:Addr):List (Str × V):=ff "axes" (.ref l) (ff "first" (.int first) (ff "room" (.int room) []))
theorem J7:¬ (("room":Str) = "axes"):=by decide +kernel
theorem J6:¬ (("room":Str) = "first"):=by decide +kernel
theorem J9:¬ (("first":Str) = "axes"):=by decide +kernel
theorem dS(room first:Int)(l:Addr):(eK room first l).lookup ("room":Str)=some (.int room):=by
 unfold eK;rw [aS,if_neg J7,aS,if_neg J6,aS,if_pos rfl]
theorem cX(room first:Int)(l:Addr):(eK room first l).lookup ("first":Str)=some (.int first):=by
 unfold eK;rw [aS,if_neg J9,aS,if_pos rfl]
theorem dU(room first:Int)(l:Addr):(eK room first l).lookup ("axes":Str)=some (.ref l):=by
 unfold eK;rw [aS,if_pos rfl]
theorem yO(room first:Int)(l:Addr){m:Str}(h1:¬ m = "axes")(h2:¬ m = "first")(h3:¬ m = "room"):(eK room first l).lookup m=none:=by
 unfold eK;rw [aS,if_neg h1,aS,if_neg h2,aS,if_neg h3];rfl
theorem fW(a:Int × Int)(l:List (Int × Int)):bP (a::l)=min 0 ((a.1 - 1) * a.2)+bP l:=by unfold bP;simp
theorem fY(a:Int × Int)(l:List (Int × Int)):bQ (a::l)=max 0 ((a.1 - 1) * a.2)+bQ l:=by unfold bQ;simp
def JU(cs:List Int)(a:Int × Int):List Int:=cs.flatMap λ c=>(List.range a.1.toNat).map λ (n:Nat)=>c+(n:Int) * a.2
def LX(first:Int)(axs:List (Int × Int)):List Int:=axs.foldl JU [first]
theorem rB(f r:Int)(hr:0 < r)(hf:0<=f):Int.gcd r (f % r)=Int.gcd f r:=by
 obtain⟨n,rfl⟩:=NA hf;obtain⟨m,rfl⟩:=NA (Int.le_of_lt hr)
 show Nat.gcd (m:Int).natAbs (((n:Int) % (m:Int))).natAbs=Nat.gcd (n:Int).natAbs (m:Int).natAbs
 rw [←Int.natCast_emod];simp only [Int.natAbs_natCast];rw [Nat.gcd_comm n m,Nat.gcd_rec m n,Nat.gcd_comm]
theorem En(a b:Int):Int.gcd (if a < 0 then -a else a) (if b < 0 then -b else b)=Int.gcd a b:=by
 have h:∀ x:Int,(if x < 0 then -x else x).natAbs=x.natAbs:=by
  intro x;split
  ·exact Int.natAbs_neg x
  ·rfl
 show Nat.gcd _ _=Nat.gcd _ _
 rw [h a,h b]
theorem BF(a:Int):0<=(if a < 0 then -a else a):=by split<;>omega
theorem rA(f:Int)(hf:0<=f):(Int.gcd f 0:Int)=f:=by
 rw [Int.gcd_zero_right];omega
def jD(ns:List Int):Int:=ns.foldl (λ f n=>(Int.gcd f n:Int)) 0
theorem m4(ns:List Int)(i:Nat)(z:Int)(h:ns[i]? = some z):jD (ns.take (i+1))=(Int.gcd (jD (ns.take i)) z:Int):=by
 unfold jD;rw [take_add_one,h];simp [List.foldl_append]
abbrev Tm3:=Int × Int × Int
def bJ(zs:List Tm3)(cs:List (Int × Int)):Int:=((zs.zip cs).map λ p=>p.1.1 * p.2.1).sum
def cE(zs:List Tm3)(cs:List (Int × Int)):Int:=((zs.zip cs).map λ p=>p.1.1 * p.2.2).sum
def dM(zs:List Tm3)(cs:List (Int × Int)):List Int:=((zs.zip cs).filter λ p=>decide (p.2.1 < p.2.2)).map λ p=>p.1.1
def cG(g l gr r:Int):Bool:=decide (g < l) || decide (gr < g) || (decide (1 < r) && decide (0 < (g - l) % r))
def cz(zs:List Tm3)(cs:List (Int × Int))(g:Int):Bool:=cG g (bJ zs cs) (cE zs cs) (jD (dM zs cs))
structure cK(zs:List Tm3):Prop where
 len:zs.length<=17
 all:∀ z∈zs,(1<=z.1/\z.1<=2000000000000000000)/\(-20000000000<=z.2.1/\z.2.1<=20000000000)/\z.2.1 < z.2.2/\z.2.2<=20000000000
structure dJ(zs:List Tm3)(cs:List (Int × Int)):Prop where
 len:cs.length=zs.length
 all:∀ p∈zs.zip cs,p.1.2.1<=p.2.1/\p.2.1<=p.2.2/\p.2.2<=p.1.2.2
theorem pK(ns:List Int):0<=jD ns:=by
 have:∀ (ns:List Int) (a:Int),0<=a->0<=ns.foldl (λ f n=>(Int.gcd f n:Int)) a:=by
  intro ns
  induction ns with
  | nil=>intro a h;exact h
  | cons n ns ih=>intro a h;exact ih _ (by show (0:Int)<=(Int.gcd a n:Int);omega)
 exact this ns 0 (M5 _)
def trP(z:Tm3)(x:V)(H:Hp):Prop:=∃ q,x=.ref q/\H q=some (.tup [.int z.1,.int z.2.1,.int z.2.2])
theorem trP.ext{z:Tm3}{x:V}{H H':Hp}(h:trP z x H)(e:Ext H H'):trP z x H':=by
 obtain⟨q,rfl,hq⟩:=h;exact⟨q,rfl,e.at hq⟩
def LAt{α:Type}(R:α->V->Hp->Prop)(H:Hp)(p:Addr)(zs:List α):Prop:=∃ ys,H p=some (.lst ys)/\Al (λ z y=>R z y H) zs ys
theorem LAt.ext{α:Type}{R:α->V->Hp->Prop}{H H':Hp}{p:Addr}{zs:List α}(hR:∀ z y H H',R z y H->Ext H H'->R z y H')(h:LAt R H p zs)(e:Ext H H'):LAt R H' p zs:=by
 obtain⟨ys,hp,al⟩:=h;exact⟨ys,e.at hp,al.imp λ _ _ r=>hR _ _ _ _ r e⟩
abbrev gA(H:Hp)(p:Addr)(zs:List Tm3):Prop:=LAt trP H p zs
abbrev cI(H:Hp)(p:Addr)(cs:List (Int × Int)):Prop:=LAt axP H p cs
theorem cu{H H':Hp}{p:Addr}{zs:List Tm3}(h:gA H p zs)(e:Ext H H'):gA H' p zs:=LAt.ext (λ _ _ _ _ r e=>r.ext e) h e
theorem ay{H H':Hp}{p:Addr}{zs:List (Int × Int)}(h:cI H p zs)(e:Ext H H'):cI H' p zs:=LAt.ext (λ _ _ _ _ r e=>r.ext e) h e
theorem mz{H:Hp}{zs:List Tm3}{ys:List V}(al:Al (λ z y=>trP z y H) zs ys){k:Nat}(hk:k < zs.length):∃ q,atI ys (0+(k:Int))=some (.ref q)/\H q=some (.tup [.int (zs.getD k default).1,.int (zs.getD k default).2.1,.int (zs.getD k default).2.2]):=by
 have hy:ys[k]? = some (ys[k]'(by rw [al.1];exact hk)):=Mx _;obtain⟨q,h1,h2⟩:=al.2 k _ _ (Mx hk) hy;refine⟨q,by rw [NS];exact fQ (by rw [hy,h1]),?_⟩;rw [show zs.getD k default=zs[k] by simp [List.getD,Mx hk]];exact h2
theorem gR{H:Hp}{zs:List (Int × Int)}{ys:List V}(al:Al (λ z y=>axP z y H) zs ys){k:Nat}(hk:k < zs.length):∃ q,atI ys (0+(k:Int))=some (.ref q)/\H q=some (.tup [.int (zs.getD k default).1,.int (zs.getD k default).2]):=by
 have hy:ys[k]? = some (ys[k]'(by rw [al.1];exact hk)):=Mx _;obtain⟨q,h1,h2⟩:=al.2 k _ _ (Mx hk) hy;refine⟨q,by rw [NS];exact fQ (by rw [hy,h1]),?_⟩;rw [show zs.getD k default=zs[k] by simp [List.getD,Mx hk]];exact h2
theorem uG{H:Hp}{zs:List (Int × Int)}{ys:List V}(al:Al (λ z y=>axP z y H) zs ys):Al (BL H) (zs.map λ z=>[z.1,z.2]) ys:=by
 refine⟨by rw [al.1,MK],λ i z y hz hy=>?_⟩;rw [MZ] at hz;obtain⟨a,ha,rfl⟩:=M4.mp hz;exact al.2 i a y ha hy
theorem Al.cons'{α:Type}{R:α->V->Prop}{z:α}{y:V}{zs:List α}{ys:List V}(r:R z y)(h:Al R zs ys):Al R (z::zs) (y::ys):=⟨by simp [h.1],λ i z' y' a b=>by
 cases i with
 | zero=>cases a;cases b;exact r
 | succ n=>exact h.2 n z' y' (by simpa using a) (by simpa using b)⟩
theorem axP.upd{z:Int × Int}{y:V}{H:Hp}{p:Addr}{xs:List V}{o:HO}(h:axP z y H)(hp:H p=some (.lst xs)):axP z y (upd H p o):=by
 obtain⟨q,rfl,hq⟩:=h;exact⟨q,rfl,by rw [ai (λ e=>by rw [e,hp] at hq;cases hq)];exact hq⟩
def top(i:Nat):Stmt:=PySem.Challenge.pw_pacehall_k56_open_and_refused.main.body.getD i (.Pass ⟨0,0,0,0⟩)
abbrev gK:Stmt:=top 2
theorem uh:ak ["thing"] ["thing"] (aa gK):=⟨rfl,rfl,rfl,by decide +kernel,rfl,by decide +kernel,by decide +kernel⟩
abbrev iZ:Stmt:=top 3
theorem dR:ak ["one", "other", "found", "rest", "smaller"] ["one", "other"] (aa iZ):=⟨rfl,rfl,rfl,by decide +kernel,rfl,by decide +kernel,by decide +kernel⟩
abbrev eS:Stmt:=top 4
theorem dt:ak ["numbers", "found", "number"] ["numbers"] (aa eS):=⟨rfl,rfl,rfl,by decide +kernel,rfl,by decide +kernel,by decide +kernel⟩
abbrev et:Stmt:=top 6
theorem qe:ak ["terms", "case"] ["terms", "case"] (aa et):=⟨rfl,rfl,rfl,by decide +kernel,rfl,by decide +kernel,by decide +kernel⟩
abbrev cp:Stmt:=top 7
theorem jI:ak ["terms", "case"] ["terms", "case"] (aa cp):=⟨rfl,rfl,rfl,by decide +kernel,rfl,by decide +kernel,by decide +kernel⟩
abbrev gn:Stmt:=top 8
theorem yi:ak ["terms", "case"] ["terms", "case"] (aa gn):=⟨rfl,rfl,rfl,by decide +kernel,rfl,by decide +kernel,by decide +kernel⟩
abbrev k8:Stmt:=top 9
theorem lN:ak ["terms", "goal", "case", "least", "rest"] ["terms", "goal", "case"] (aa k8):=⟨rfl,rfl,rfl,by decide +kernel,rfl,by decide +kernel,by decide +kernel⟩
abbrev ef:Stmt:=top 18
abbrev jO:Stmt:=top 19
abbrev fS:Stmt:=top 24
theorem qg:ak ["thing", "low", "high"] ["thing", "low", "high"] (aa fS):=⟨rfl,rfl,rfl,by decide +kernel,rfl,by decide +kernel,by decide +kernel⟩
abbrev iX:Stmt:=top 25
theorem yj:ak ["thing"] ["thing"] (aa iX):=⟨rfl,rfl,rfl,by decide +kernel,rfl,by decide +kernel,by decide +kernel⟩
abbrev iY:Stmt:=top 26
theorem yk:ak ["thing"] ["thing"] (aa iY):=⟨rfl,rfl,rfl,by decide +kernel,rfl,by decide +kernel,by decide +kernel⟩
abbrev fm:Stmt:=top 27
theorem ui:ak ["thing"] ["thing"] (aa fm):=⟨rfl,rfl,rfl,by decide +kernel,rfl,by decide +kernel,by decide +kernel⟩
abbrev fR:Stmt:=top 28
theorem qf:ak ["axis"] ["axis"] (aa fR):=⟨rfl,rfl,rfl,by decide +kernel,rfl,by decide +kernel,by decide +kernel⟩
abbrev b9:Stmt:=gE (top 29) 0
theorem jB:ak ["self", "room", "first", "axes"] ["self", "room", "first", "axes"] (aa b9):=⟨rfl,rfl,rfl,by decide +kernel,rfl,by decide +kernel,by decide +kernel⟩
abbrev gW:Stmt:=gE (top 29) 1
abbrev gX:Stmt:=gE (top 29) 2
abbrev jh:Stmt:=gE (top 29) 4
abbrev dn:Stmt:=gE (top 29) 7
theorem oy:ak ["self"] ["self"] (aa dn):=⟨rfl,rfl,rfl,by decide +kernel,rfl,by decide +kernel,by decide +kernel⟩
abbrev b8:Stmt:=gE (top 29) 8
theorem jA:ak ["self"] ["self"] (aa b8):=⟨rfl,rfl,rfl,by decide +kernel,rfl,by decide +kernel,by decide +kernel⟩
abbrev dD:Stmt:=top 31
theorem fE:ak ["one", "other"] ["one", "other"] (aa dD):=⟨rfl,rfl,rfl,by decide +kernel,rfl,by decide +kernel,by decide +kernel⟩
abbrev iP:Stmt:=top 33
theorem EI:ak ["one", "other"] ["one", "other"] (aa iP):=⟨rfl,rfl,rfl,by decide +kernel,rfl,by decide +kernel,by decide +kernel⟩
abbrev dW:Stmt:=top 34
theorem aG:ak ["one", "other", "lows", "highs", "pace", "size", "times", "reach", "terms"] ["one", "other"] (aa dW):=⟨rfl,rfl,rfl,by decide +kernel,rfl,by decide +kernel,by decide +kernel⟩
abbrev dj:Stmt:=top 37
theorem oo:ak ["terms"] ["terms"] (aa dj):=⟨rfl,rfl,rfl,by decide +kernel,rfl,by decide +kernel,by decide +kernel⟩
abbrev k7:Stmt:=top 38
theorem lM:ak ["case", "k", "at", "upper", "lower"] ["case", "k", "at"] (aa k7):=⟨rfl,rfl,rfl,by decide +kernel,rfl,by decide +kernel,by decide +kernel⟩
abbrev bh:Stmt:=top 39
theorem gP:ak ["terms", "goal", "case"] ["terms", "goal", "case"] (aa bh):=⟨rfl,rfl,rfl,by decide +kernel,rfl,by decide +kernel,by decide +kernel⟩
abbrev gJ:Stmt:=top 40
theorem ug:ak ["times", "bounds", "above_least", "below_greatest"] ["times", "bounds", "above_least", "below_greatest"] (aa gJ):=⟨rfl,rfl,rfl,by decide +kernel,rfl,by decide +kernel,by decide +kernel⟩
abbrev iW:Stmt:=top 41
theorem bI:ak ["terms", "goal", "case", "above_least", "below_greatest", "best", "k", "bounds", "kept"] ["terms", "goal", "case"] (aa iW):=⟨rfl,rfl,rfl,by decide +kernel,rfl,by decide +kernel,by decide +kernel⟩
abbrev bL:Stmt:=top 42
theorem av:ak ["one", "other", "terms", "numbers", "left", "term", "number", "place", "pace", "size", "taken", "many"] ["one", "other", "terms", "numbers"] (aa bL):=⟨rfl,rfl,rfl,by decide +kernel,rfl,by decide +kernel,by decide +kernel⟩
abbrev fh:Stmt:=top 43
theorem aF:ak ["one", "other", "most", "found", "terms", "goal", "cases", "paper", "looked", "case", "step", "numbers"] ["one", "other", "most"] (aa fh):=⟨rfl,rfl,rfl,by decide +kernel,rfl,by decide +kernel,by decide +kernel⟩
abbrev fU:Stmt:=top 45
theorem eC:ak ["_law_script", "_law_k", "_law_many", "_law_number", "_law_cell_here"] ["_law_script", "_law_k", "_law_many"] (aa fU):=⟨rfl,rfl,rfl,by decide +kernel,rfl,by decide +kernel,by decide +kernel⟩
abbrev eT:Stmt:=top 46
theorem oq:ak ["_law_found"] ["_law_found"] (aa eT):=⟨rfl,rfl,rfl,by decide +kernel,rfl,by decide +kernel,by decide +kernel⟩
abbrev fV:Stmt:=top 47
theorem ba:ak ["_law_script", "_law_at", "_law_factor", "_law_axes_here", "_law_count", "_law_k", "_law_cell_here", "_law_size", "_law_pace"] ["_law_script", "_law_at", "_law_factor"] (aa fV):=⟨rfl,rfl,rfl,by decide +kernel,rfl,by decide +kernel,by decide +kernel⟩
abbrev eV:Stmt:=top 48
theorem aP:ak ["_law_script", "_law_at", "_law_pool", "_law_axes_here", "_law_k", "_law_cell_here", "_law_size", "_law_most", "_law_wide", "_law_pace", "_law_same"] ["_law_script", "_law_at", "_law_pool"] (aa eV):=⟨rfl,rfl,rfl,by decide +kernel,rfl,by decide +kernel,by decide +kernel⟩
abbrev b5:Stmt:=top 49
theorem b7:ak ["_law_one", "_law_other", "_law_goal", "_law_low", "_law_more", "_law_least", "_law_greatest", "_law_first", "_law_room"] ["_law_one", "_law_other", "_law_goal", "_law_low", "_law_more"] (aa b5):=⟨rfl,rfl,rfl,by decide +kernel,rfl,by decide +kernel,by decide +kernel⟩
abbrev dk:Stmt:=top 50
theorem aY:ak ["_law_one", "_law_other", "_law_ranges", "_law_axes_here", "_law_sign", "_law_size", "_law_pace", "_law_low", "_law_high", "_law_found"] ["_law_one", "_law_other"] (aa dk):=⟨rfl,rfl,rfl,by decide +kernel,rfl,by decide +kernel,by decide +kernel⟩
abbrev dF:Stmt:=top 51
theorem bu:ak ["_law_terms_here", "_law_count", "_law_times", "_law_low", "_law_high"] ["_law_terms_here"] (aa dF):=⟨rfl,rfl,rfl,by decide +kernel,rfl,by decide +kernel,by decide +kernel⟩
abbrev eW:Stmt:=top 52
theorem bS:ak ["_law_terms_here", "_law_below", "_law_times", "_law_low", "_law_high"] ["_law_terms_here"] (aa eW):=⟨rfl,rfl,rfl,by decide +kernel,rfl,by decide +kernel,by decide +kernel⟩
abbrev da:Stmt:=top 53
theorem df:ak ["_law_place", "_law_axes_here", "_law_at", "_law_axis"] ["_law_place", "_law_axes_here"] (aa da):=⟨rfl,rfl,rfl,by decide +kernel,rfl,by decide +kernel,by decide +kernel⟩
abbrev eA:Stmt:=top 54
theorem qh:ak ["_law_first", "_law_axes_here", "_law_place"] ["_law_first", "_law_axes_here", "_law_place"] (aa eA):=⟨rfl,rfl,rfl,by decide +kernel,rfl,by decide +kernel,by decide +kernel⟩
abbrev gL:Stmt:=top 55
theorem uj:ak ["_law_found", "_law_one", "_law_other", "_law_goal"] ["_law_found", "_law_one", "_law_other", "_law_goal"] (aa gL):=⟨rfl,rfl,rfl,by decide +kernel,rfl,by decide +kernel,by decide +kernel⟩
abbrev cY:Stmt:=top 56
theorem jo:ak ["_law_terms_here", "_law_case", "_law_least"] ["_law_terms_here", "_law_case"] (aa cY):=⟨rfl,rfl,rfl,by decide +kernel,rfl,by decide +kernel,by decide +kernel⟩
abbrev dG:Stmt:=top 57
theorem bw:ak ["_law_numbers", "_law_found", "_law_other", "_law_one"] ["_law_numbers"] (aa dG):=⟨rfl,rfl,rfl,by decide +kernel,rfl,by decide +kernel,by decide +kernel⟩
abbrev dm:Stmt:=top 58
theorem du:ak ["_law_terms_here", "_law_goal", "_law_case", "_law_least", "_law_greatest", "_law_rest_here"] ["_law_terms_here", "_law_goal", "_law_case"] (aa dm):=⟨rfl,rfl,rfl,by decide +kernel,rfl,by decide +kernel,by decide +kernel⟩
abbrev fT:Stmt:=top 59
theorem jq:ak ["_law_terms_here", "_law_goal", "_law_case", "_law_by", "_law_k"] ["_law_terms_here", "_law_goal", "_law_case", "_law_by"] (aa fT):=⟨rfl,rfl,rfl,by decide +kernel,rfl,by decide +kernel,by decide +kernel⟩
abbrev eD:Stmt:=top 60
theorem bE:ak ["_law_terms_here", "_law_goal", "_law_case", "_law_step", "_law_least", "_law_greatest", "_law_word", "_law_k", "_law_at"] ["_law_terms_here", "_law_goal", "_law_case", "_law_step"] (aa eD):=⟨rfl,rfl,rfl,by decide +kernel,rfl,by decide +kernel,by decide +kernel⟩
abbrev eu:Stmt:=top 61
theorem cn:ak ["_law_terms_here", "_law_goal", "_law_paper", "_law_bare", "_law_cases", "_law_step", "_law_case", "_law_more"] ["_law_terms_here", "_law_goal", "_law_paper", "_law_bare"] (aa eu):=⟨rfl,rfl,rfl,by decide +kernel,rfl,by decide +kernel,by decide +kernel⟩
abbrev eZ:Stmt:=top 62
theorem ow:ak ["_law_found", "_law_terms_here", "_law_goal", "_law_most"] ["_law_found", "_law_terms_here", "_law_goal", "_law_most"] (aa eZ):=⟨rfl,rfl,rfl,by decide +kernel,rfl,by decide +kernel,by decide +kernel⟩
abbrev eE:Stmt:=top 63
theorem mi:ak ["_law_found", "_law_one", "_law_other", "_law_goal", "_law_most"] ["_law_found", "_law_one", "_law_other", "_law_goal", "_law_most"] (aa eE):=⟨rfl,rfl,rfl,by decide +kernel,rfl,by decide +kernel,by decide +kernel⟩
abbrev eY:Stmt:=top 64
theorem fe:ak ["_law_terms_here", "_law_bound_here"] ["_law_terms_here"] (aa eY):=⟨rfl,rfl,rfl,by decide +kernel,rfl,by decide +kernel,by decide +kernel⟩
abbrev eU:Stmt:=top 65
theorem ou:ak ["_law_found", "_law_one", "_law_other", "_law_goal", "_law_most"] ["_law_found", "_law_one", "_law_other", "_law_goal", "_law_most"] (aa eU):=⟨rfl,rfl,rfl,by decide +kernel,rfl,by decide +kernel,by decide +kernel⟩
abbrev dE:Stmt:=top 66
theorem fF:ak ["_law_here", "_law_there", "_law_most", "e"] ["_law_here", "_law_there", "_law_most"] (aa dE):=⟨rfl,rfl,rfl,by decide +kernel,rfl,by decide +kernel,by decide +kernel⟩
abbrev fq:Stmt:=top 67
theorem fC:ak ["_law_script", "_law_terms_here", "_law_least", "_law_greatest", "_law_cell_here"] ["_law_script", "_law_terms_here"] (aa fq):=⟨rfl,rfl,rfl,by decide +kernel,rfl,by decide +kernel,by decide +kernel⟩
abbrev cq:Stmt:=top 68
theorem fG:ak ["_law_one", "_law_other", "_law_goal", "_law_terms_here"] ["_law_one", "_law_other", "_law_goal"] (aa cq):=⟨rfl,rfl,rfl,by decide +kernel,rfl,by decide +kernel,by decide +kernel⟩
abbrev eX:Stmt:=top 69
theorem aZ:ak ["_law_script", "_law_great_here", "_law_one", "_law_other", "_law_goal"] ["_law_script"] (aa eX):=⟨rfl,rfl,rfl,by decide +kernel,rfl,by decide +kernel,by decide +kernel⟩
abbrev kj:Stmt:=top 70
theorem eL:ak ["_law_script", "_law_great_here", "_law_one", "_law_other", "_law_goal", "_law_here", "_law_there", "_law_bound_here", "_law_most", "_law_found", "_law_told", "_law_wide", "_law_things", "_law_thing", "_law_wider"] ["_law_script"] (aa kj):=⟨rfl,rfl,rfl,by decide +kernel,rfl,by decide +kernel,by decide +kernel⟩
set_option genInjectivity false in
structure Adr where
 a_PaceError:Addr
 a_NoPlace:Addr
 a_NoView:Addr
 a_NoCount:Addr
 a_NoPair:Addr
 a_NoMost:Addr
 a_View:Addr
 a_is_whole:Addr
 d_is_whole:FuncData
 a_divisor:Addr
 d_divisor:FuncData
 a_divisor_of:Addr
 d_divisor_of:FuncData
 a_least_sum:Addr
 d_least_sum:FuncData
 a_greatest_sum:Addr
 d_greatest_sum:FuncData
 a_rest_of:Addr
 d_rest_of:FuncData
 a_end_of:Addr
 d_end_of:FuncData
 a_is_number_below:Addr
 d_is_number_below:FuncData
 a_is_place:Addr
 d_is_place:FuncData
 a_is_within:Addr
 d_is_within:FuncData
 a_is_size:Addr
 d_is_size:FuncData
 a_is_axis:Addr
 d_is_axis:FuncData
 a_are_axes:Addr
 d_are_axes:FuncData
 a_kept_axis:Addr
 d_kept_axis:FuncData
 a_View___init__:Addr
 d_View___init__:FuncData
 a_View_sizes:Addr
 d_View_sizes:FuncData
 a_View_paces:Addr
 d_View_paces:FuncData
 a_View_cell:Addr
 d_View_cell:FuncData
 a_View_least:Addr
 d_View_least:FuncData
 a_View_greatest:Addr
 d_View_greatest:FuncData
 a_refuse_rooms:Addr
 d_refuse_rooms:FuncData
 a_pulls:Addr
 d_pulls:FuncData
 a_gathered:Addr
 d_gathered:FuncData
 a_first_case:Addr
 d_first_case:FuncData
 a_parted:Addr
 d_parted:FuncData
 a_numbers_at_once:Addr
 d_numbers_at_once:FuncData
 a_narrowed:Addr
 d_narrowed:FuncData
 a_parting:Addr
 d_parting:FuncData
 a_places_by_numbers:Addr
 d_places_by_numbers:FuncData
 a_shares:Addr
 d_shares:FuncData
 a__law_draw:Addr
 d__law_draw:FuncData
 a__law_whole:Addr
 d__law_whole:FuncData
 a__law_axes:Addr
 d__law_axes:FuncData
 a__law_great:Addr
 d__law_great:FuncData
 a__law_placed:Addr
 d__law_placed:FuncData
 a__law_terms:Addr
 d__law_terms:FuncData
 a__law_product:Addr
 d__law_product:FuncData
 a__law_falls:Addr
 d__law_falls:FuncData
 a__law_is_place:Addr
 d__law_is_place:FuncData
 a__law_cell:Addr
 d__law_cell:FuncData
 a__law_met:Addr
 d__law_met:FuncData
 a__law_sums:Addr
 d__law_sums:FuncData
 a__law_divisor:Addr
 d__law_divisor:FuncData
 a__law_ended:Addr
 d__law_ended:FuncData
 a__law_rest:Addr
 d__law_rest:FuncData
 a__law_behind:Addr
 d__law_behind:FuncData
 a__law_left:Addr
 d__law_left:FuncData
 a__law_apart:Addr
 d__law_apart:FuncData
 a__law_answer:Addr
 d__law_answer:FuncData
 a__law_bound:Addr
 d__law_bound:FuncData
 a__law_right:Addr
 d__law_right:FuncData
 a__law_refused:Addr
 d__law_refused:FuncData
 a__law_far:Addr
 d__law_far:FuncData
 a__law_is_over:Addr
 d__law_is_over:FuncData
 a__law_drawn:Addr
 d__law_drawn:FuncData
 a_law:Addr
 d_law:FuncData
structure Tx(K:W.Frag)(mg:Str->Option Value)(t:Adr):Prop where
 m_PaceError:mg "PaceError"=some (.ref t.a_PaceError)
 m_NoPlace:mg "NoPlace"=some (.ref t.a_NoPlace)
 m_NoView:mg "NoView"=some (.ref t.a_NoView)
 m_NoCount:mg "NoCount"=some (.ref t.a_NoCount)
 m_NoPair:mg "NoPair"=some (.ref t.a_NoPair)
 m_NoMost:mg "NoMost"=some (.ref t.a_NoMost)
 m_View:mg "View"=some (.ref t.a_View)
 o_NoPair:W.excIn K t.a_NoPair [.type "ValueError",.type "Exception",.type "BaseException",.type "object"] "ValueError.__new__"=true
 o_NoMost:W.excIn K t.a_NoMost [.type "ValueError",.type "Exception",.type "BaseException",.type "object"] "ValueError.__new__"=true
 x_NoPair_PaceError:W.exmOne K (.ref t.a_NoPair) (.ref t.a_PaceError)=some true
 x_NoMost_PaceError:W.exmOne K (.ref t.a_NoMost) (.ref t.a_PaceError)=some true
 ocs:W.specialIn K (.builtin "object.__class__") "__get__"=some (some (.builtin "getset_descriptor.__get__"))
 oct:W.takesIn K (.builtin "object.__class__")=some true
 ga_NoPair:W.findIn K (.ref t.a_NoPair) "__getattribute__"=some (some (.builtin "BaseException.__getattribute__"))
 gn_NoPair:W.findIn K (.ref t.a_NoPair) "__getattr__"=some none
 mb_NoPair:W.mroIn K t.a_NoPair (.type "BaseException")=some true
 mo_NoPair:W.mroIn K t.a_NoPair (.type "object")=some true
 fc_NoPair:W.findIn K (.ref t.a_NoPair) "__class__"=some (some (.builtin "object.__class__"))
 hd_NoPair:W.hasDictIn K t.a_NoPair=true
 ga_NoMost:W.findIn K (.ref t.a_NoMost) "__getattribute__"=some (some (.builtin "BaseException.__getattribute__"))
 gn_NoMost:W.findIn K (.ref t.a_NoMost) "__getattr__"=some none
 mb_NoMost:W.mroIn K t.a_NoMost (.type "BaseException")=some true
 mo_NoMost:W.mroIn K t.a_NoMost (.type "object")=some true
 fc_NoMost:W.findIn K (.ref t.a_NoMost) "__class__"=some (some (.builtin "object.__class__"))
 hd_NoMost:W.hasDictIn K t.a_NoMost=true
 kc_NoPair_NoCount:W.hasDictIn K t.a_NoCount=true
 kt_NoPair_NoCount:W.typeIn K (.ref t.a_NoCount)=some (.type "type")
 ks_NoPair_NoCount:W.subIn K (.ref t.a_NoPair) (.ref t.a_NoCount)=some false
 kn_NoPair_NoCount:(t.a_NoPair == t.a_NoCount)=false
 kc_NoPair_NoPair:W.hasDictIn K t.a_NoPair=true
 kt_NoPair_NoPair:W.typeIn K (.ref t.a_NoPair)=some (.type "type")
 ks_NoPair_NoPair:W.subIn K (.ref t.a_NoPair) (.ref t.a_NoPair)=some true
 kc_NoPair_NoMost:W.hasDictIn K t.a_NoMost=true
 kt_NoPair_NoMost:W.typeIn K (.ref t.a_NoMost)=some (.type "type")
 ks_NoPair_NoMost:W.subIn K (.ref t.a_NoPair) (.ref t.a_NoMost)=some false
 kn_NoPair_NoMost:(t.a_NoPair == t.a_NoMost)=false
 ks_NoPair_ValueError:W.subIn K (.ref t.a_NoPair) (.type "ValueError")=some true
 kc_NoMost_NoCount:W.hasDictIn K t.a_NoCount=true
 kt_NoMost_NoCount:W.typeIn K (.ref t.a_NoCount)=some (.type "type")
 ks_NoMost_NoCount:W.subIn K (.ref t.a_NoMost) (.ref t.a_NoCount)=some false
 kn_NoMost_NoCount:(t.a_NoMost == t.a_NoCount)=false
 kc_NoMost_NoPair:W.hasDictIn K t.a_NoPair=true
 kt_NoMost_NoPair:W.typeIn K (.ref t.a_NoPair)=some (.type "type")
 ks_NoMost_NoPair:W.subIn K (.ref t.a_NoMost) (.ref t.a_NoPair)=some false
 kn_NoMost_NoPair:(t.a_NoMost == t.a_NoPair)=false
 kc_NoMost_NoMost:W.hasDictIn K t.a_NoMost=true
 kt_NoMost_NoMost:W.typeIn K (.ref t.a_NoMost)=some (.type "type")
 ks_NoMost_NoMost:W.subIn K (.ref t.a_NoMost) (.ref t.a_NoMost)=some true
 ks_NoMost_ValueError:W.subIn K (.ref t.a_NoMost) (.type "ValueError")=some true
 m_MOST_ROOM:∃ tk,mg "MOST_ROOM"=some (.int 1000000000000000000 tk)
 m_MOST_SIZE:∃ tk,mg "MOST_SIZE"=some (.int 1000000000 tk)
 m_MOST_AXES:∃ tk,mg "MOST_AXES"=some (.int 8 tk)
 m_MOST_CASES:∃ tk,mg "MOST_CASES"=some (.int 100000 tk)
 cl_View:Cls K t.a_View
 na_View_axes:eI K t.a_View "axes"
 na_View_first:eI K t.a_View "first"
 na_View_room:eI K t.a_View "room"
 mk_View:Mk K t.a_View t.a_View___init__
 mt_View_sizes:BN K t.a_View "sizes" t.a_View_sizes
 mt_View_paces:BN K t.a_View "paces" t.a_View_paces
 mt_View_cell:BN K t.a_View "cell" t.a_View_cell
 mt_View_least:BN K t.a_View "least" t.a_View_least
 mt_View_greatest:BN K t.a_View "greatest" t.a_View_greatest
 F_is_whole:Fun K "is_whole" "is_whole" gK t.a_is_whole t.d_is_whole
 m_is_whole:mg "is_whole"=some (.ref t.a_is_whole)
 b_is_whole:aC K t.d_is_whole ["thing"] []
 F_divisor:Fun K "divisor" "divisor" iZ t.a_divisor t.d_divisor
 m_divisor:mg "divisor"=some (.ref t.a_divisor)
 b_divisor:aC K t.d_divisor ["one", "other"] []
 F_divisor_of:Fun K "divisor_of" "divisor_of" eS t.a_divisor_of t.d_divisor_of
 m_divisor_of:mg "divisor_of"=some (.ref t.a_divisor_of)
 b_divisor_of:aC K t.d_divisor_of ["numbers"] []
 F_least_sum:Fun K "least_sum" "least_sum" et t.a_least_sum t.d_least_sum
 m_least_sum:mg "least_sum"=some (.ref t.a_least_sum)
 b_least_sum:aC K t.d_least_sum ["terms", "case"] []
 F_greatest_sum:Fun K "greatest_sum" "greatest_sum" cp t.a_greatest_sum t.d_greatest_sum
 m_greatest_sum:mg "greatest_sum"=some (.ref t.a_greatest_sum)
 b_greatest_sum:aC K t.d_greatest_sum ["terms", "case"] []
 F_rest_of:Fun K "rest_of" "rest_of" gn t.a_rest_of t.d_rest_of
 m_rest_of:mg "rest_of"=some (.ref t.a_rest_of)
 b_rest_of:aC K t.d_rest_of ["terms", "case"] []
 F_end_of:Fun K "end_of" "end_of" k8 t.a_end_of t.d_end_of
 m_end_of:mg "end_of"=some (.ref t.a_end_of)
 b_end_of:aC K t.d_end_of ["terms", "goal", "case"] []
 F_is_number_below:Fun K "is_number_below" "is_number_below" ef t.a_is_number_below t.d_is_number_below
 m_is_number_below:mg "is_number_below"=some (.ref t.a_is_number_below)
 b_is_number_below:aC K t.d_is_number_below ["thing", "bound"] []
 F_is_place:Fun K "is_place" "is_place" jO t.a_is_place t.d_is_place
 m_is_place:mg "is_place"=some (.ref t.a_is_place)
 b_is_place:aC K t.d_is_place ["sizes", "thing"] []
 F_is_within:Fun K "is_within" "is_within" fS t.a_is_within t.d_is_within
 m_is_within:mg "is_within"=some (.ref t.a_is_within)
 b_is_within:aC K t.d_is_within ["thing", "low", "high"] []
 F_is_size:Fun K "is_size" "is_size" iX t.a_is_size t.d_is_size
 m_is_size:mg "is_size"=some (.ref t.a_is_size)
 b_is_size:aC K t.d_is_size ["thing"] []
 F_is_axis:Fun K "is_axis" "is_axis" iY t.a_is_axis t.d_is_axis
 m_is_axis:mg "is_axis"=some (.ref t.a_is_axis)
 b_is_axis:aC K t.d_is_axis ["thing"] []
 F_are_axes:Fun K "are_axes" "are_axes" fm t.a_are_axes t.d_are_axes
 m_are_axes:mg "are_axes"=some (.ref t.a_are_axes)
 b_are_axes:aC K t.d_are_axes ["thing"] []
 F_kept_axis:Fun K "kept_axis" "kept_axis" fR t.a_kept_axis t.d_kept_axis
 m_kept_axis:mg "kept_axis"=some (.ref t.a_kept_axis)
 b_kept_axis:aC K t.d_kept_axis ["axis"] []
 F_View___init__:Fun K "__init__" "View.__init__" b9 t.a_View___init__ t.d_View___init__
 b_View___init__:aC K t.d_View___init__ ["self", "room", "first", "axes"] []
 F_View_sizes:Fun K "sizes" "View.sizes" gW t.a_View_sizes t.d_View_sizes
 b_View_sizes:aC K t.d_View_sizes ["self"] []
 F_View_paces:Fun K "paces" "View.paces" gX t.a_View_paces t.d_View_paces
 b_View_paces:aC K t.d_View_paces ["self"] []
 F_View_cell:Fun K "cell" "View.cell" jh t.a_View_cell t.d_View_cell
 b_View_cell:aC K t.d_View_cell ["self", "place"] []
 F_View_least:Fun K "least" "View.least" dn t.a_View_least t.d_View_least
 b_View_least:aC K t.d_View_least ["self"] []
 F_View_greatest:Fun K "greatest" "View.greatest" b8 t.a_View_greatest t.d_View_greatest
 b_View_greatest:aC K t.d_View_greatest ["self"] []
 F_refuse_rooms:Fun K "refuse_rooms" "refuse_rooms" dD t.a_refuse_rooms t.d_refuse_rooms
 m_refuse_rooms:mg "refuse_rooms"=some (.ref t.a_refuse_rooms)
 b_refuse_rooms:aC K t.d_refuse_rooms ["one", "other"] []
 F_pulls:Fun K "pulls" "pulls" iP t.a_pulls t.d_pulls
 m_pulls:mg "pulls"=some (.ref t.a_pulls)
 b_pulls:aC K t.d_pulls ["one", "other"] []
 F_gathered:Fun K "gathered" "gathered" dW t.a_gathered t.d_gathered
 m_gathered:mg "gathered"=some (.ref t.a_gathered)
 b_gathered:aC K t.d_gathered ["one", "other"] []
 F_first_case:Fun K "first_case" "first_case" dj t.a_first_case t.d_first_case
 m_first_case:mg "first_case"=some (.ref t.a_first_case)
 b_first_case:aC K t.d_first_case ["terms"] []
 F_parted:Fun K "parted" "parted" k7 t.a_parted t.d_parted
 m_parted:mg "parted"=some (.ref t.a_parted)
 b_parted:aC K t.d_parted ["case", "k", "at"] []
 F_numbers_at_once:Fun K "numbers_at_once" "numbers_at_once" bh t.a_numbers_at_once t.d_numbers_at_once
 m_numbers_at_once:mg "numbers_at_once"=some (.ref t.a_numbers_at_once)
 b_numbers_at_once:aC K t.d_numbers_at_once ["terms", "goal", "case"] []
 F_narrowed:Fun K "narrowed" "narrowed" gJ t.a_narrowed t.d_narrowed
 m_narrowed:mg "narrowed"=some (.ref t.a_narrowed)
 b_narrowed:aC K t.d_narrowed ["times", "bounds", "above_least", "below_greatest"] []
 F_parting:Fun K "parting" "parting" iW t.a_parting t.d_parting
 m_parting:mg "parting"=some (.ref t.a_parting)
 b_parting:aC K t.d_parting ["terms", "goal", "case"] []
 F_places_by_numbers:Fun K "places_by_numbers" "places_by_numbers" bL t.a_places_by_numbers t.d_places_by_numbers
 m_places_by_numbers:mg "places_by_numbers"=some (.ref t.a_places_by_numbers)
 b_places_by_numbers:aC K t.d_places_by_numbers ["one", "other", "terms", "numbers"] []
 F_shares:Fb K "shares" "shares" fh t.a_shares t.d_shares
 m_shares:mg "shares"=some (.ref t.a_shares)
 b_shares:aC K t.d_shares ["one", "other", "most"] []
 b_shares_2:∃ tk,aC K t.d_shares ["one", "other", "most"] [Value.int 1000 tk]
 F__law_draw:Fun K "_law_draw" "_law_draw" fU t.a__law_draw t.d__law_draw
 m__law_draw:mg "_law_draw"=some (.ref t.a__law_draw)
 b__law_draw:aC K t.d__law_draw ["_law_script", "_law_k", "_law_many"] []
 F__law_whole:Fun K "_law_whole" "_law_whole" eT t.a__law_whole t.d__law_whole
 m__law_whole:mg "_law_whole"=some (.ref t.a__law_whole)
 b__law_whole:aC K t.d__law_whole ["_law_found"] []
 F__law_axes:Fun K "_law_axes" "_law_axes" fV t.a__law_axes t.d__law_axes
 m__law_axes:mg "_law_axes"=some (.ref t.a__law_axes)
 b__law_axes:aC K t.d__law_axes ["_law_script", "_law_at", "_law_factor"] []
 F__law_great:Fun K "_law_great" "_law_great" eV t.a__law_great t.d__law_great
 m__law_great:mg "_law_great"=some (.ref t.a__law_great)
 b__law_great:aC K t.d__law_great ["_law_script", "_law_at", "_law_pool"] []
 F__law_placed:Fun K "_law_placed" "_law_placed" b5 t.a__law_placed t.d__law_placed
 m__law_placed:mg "_law_placed"=some (.ref t.a__law_placed)
 b__law_placed:aC K t.d__law_placed ["_law_one", "_law_other", "_law_goal", "_law_low", "_law_more"] []
 F__law_terms:Fun K "_law_terms" "_law_terms" dk t.a__law_terms t.d__law_terms
 m__law_terms:mg "_law_terms"=some (.ref t.a__law_terms)
 b__law_terms:aC K t.d__law_terms ["_law_one", "_law_other"] []
 F__law_product:Fun K "_law_product" "_law_product" dF t.a__law_product t.d__law_product
 m__law_product:mg "_law_product"=some (.ref t.a__law_product)
 b__law_product:aC K t.d__law_product ["_law_terms_here"] []
 F__law_falls:Fun K "_law_falls" "_law_falls" eW t.a__law_falls t.d__law_falls
 m__law_falls:mg "_law_falls"=some (.ref t.a__law_falls)
 b__law_falls:aC K t.d__law_falls ["_law_terms_here"] []
 F__law_is_place:Fun K "_law_is_place" "_law_is_place" da t.a__law_is_place t.d__law_is_place
 m__law_is_place:mg "_law_is_place"=some (.ref t.a__law_is_place)
 b__law_is_place:aC K t.d__law_is_place ["_law_place", "_law_axes_here"] []
 F__law_cell:Fun K "_law_cell" "_law_cell" eA t.a__law_cell t.d__law_cell
 m__law_cell:mg "_law_cell"=some (.ref t.a__law_cell)
 b__law_cell:aC K t.d__law_cell ["_law_first", "_law_axes_here", "_law_place"] []
 F__law_met:Fun K "_law_met" "_law_met" gL t.a__law_met t.d__law_met
 m__law_met:mg "_law_met"=some (.ref t.a__law_met)
 b__law_met:aC K t.d__law_met ["_law_found", "_law_one", "_law_other", "_law_goal"] []
 F__law_sums:Fun K "_law_sums" "_law_sums" cY t.a__law_sums t.d__law_sums
 m__law_sums:mg "_law_sums"=some (.ref t.a__law_sums)
 b__law_sums:aC K t.d__law_sums ["_law_terms_here", "_law_case"] []
 F__law_divisor:Fun K "_law_divisor" "_law_divisor" dG t.a__law_divisor t.d__law_divisor
 m__law_divisor:mg "_law_divisor"=some (.ref t.a__law_divisor)
 b__law_divisor:aC K t.d__law_divisor ["_law_numbers"] []
 F__law_ended:Fun K "_law_ended" "_law_ended" dm t.a__law_ended t.d__law_ended
 m__law_ended:mg "_law_ended"=some (.ref t.a__law_ended)
 b__law_ended:aC K t.d__law_ended ["_law_terms_here", "_law_goal", "_law_case"] []
 F__law_rest:Fun K "_law_rest" "_law_rest" fT t.a__law_rest t.d__law_rest
 m__law_rest:mg "_law_rest"=some (.ref t.a__law_rest)
 b__law_rest:aC K t.d__law_rest ["_law_terms_here", "_law_goal", "_law_case", "_law_by"] []
 F__law_behind:Fun K "_law_behind" "_law_behind" eD t.a__law_behind t.d__law_behind
 m__law_behind:mg "_law_behind"=some (.ref t.a__law_behind)
 b__law_behind:aC K t.d__law_behind ["_law_terms_here", "_law_goal", "_law_case", "_law_step"] []
 F__law_left:Fun K "_law_left" "_law_left" eu t.a__law_left t.d__law_left
 m__law_left:mg "_law_left"=some (.ref t.a__law_left)
 b__law_left:aC K t.d__law_left ["_law_terms_here", "_law_goal", "_law_paper", "_law_bare"] []
 F__law_apart:Fun K "_law_apart" "_law_apart" eZ t.a__law_apart t.d__law_apart
 m__law_apart:mg "_law_apart"=some (.ref t.a__law_apart)
 b__law_apart:aC K t.d__law_apart ["_law_found", "_law_terms_here", "_law_goal", "_law_most"] []
 F__law_answer:Fun K "_law_answer" "_law_answer" eE t.a__law_answer t.d__law_answer
 m__law_answer:mg "_law_answer"=some (.ref t.a__law_answer)
 b__law_answer:aC K t.d__law_answer ["_law_found", "_law_one", "_law_other", "_law_goal", "_law_most"] []
 F__law_bound:Fun K "_law_bound" "_law_bound" eY t.a__law_bound t.d__law_bound
 m__law_bound:mg "_law_bound"=some (.ref t.a__law_bound)
 b__law_bound:aC K t.d__law_bound ["_law_terms_here"] []
 F__law_right:Fun K "_law_right" "_law_right" eU t.a__law_right t.d__law_right
 m__law_right:mg "_law_right"=some (.ref t.a__law_right)
 b__law_right:aC K t.d__law_right ["_law_found", "_law_one", "_law_other", "_law_goal", "_law_most"] []
 F__law_refused:Fun K "_law_refused" "_law_refused" dE t.a__law_refused t.d__law_refused
 m__law_refused:mg "_law_refused"=some (.ref t.a__law_refused)
 b__law_refused:aC K t.d__law_refused ["_law_here", "_law_there", "_law_most"] []
 F__law_far:Fun K "_law_far" "_law_far" fq t.a__law_far t.d__law_far
 m__law_far:mg "_law_far"=some (.ref t.a__law_far)
 b__law_far:aC K t.d__law_far ["_law_script", "_law_terms_here"] []
 F__law_is_over:Fun K "_law_is_over" "_law_is_over" cq t.a__law_is_over t.d__law_is_over
 m__law_is_over:mg "_law_is_over"=some (.ref t.a__law_is_over)
 b__law_is_over:aC K t.d__law_is_over ["_law_one", "_law_other", "_law_goal"] []
 F__law_drawn:Fun K "_law_drawn" "_law_drawn" eX t.a__law_drawn t.d__law_drawn
 m__law_drawn:mg "_law_drawn"=some (.ref t.a__law_drawn)
 b__law_drawn:aC K t.d__law_drawn ["_law_script"] []
 F_law:Fun K "law" "law" kj t.a_law t.d_law
 m_law:mg "law"=some (.ref t.a_law)
 b_law:aC K t.d_law ["_law_script"] []
 z_ValueError:mg "ValueError"=none
 z_abs:mg "abs"=none
 z_all:mg "all"=none
 z_bool:mg "bool"=none
 z_enumerate:mg "enumerate"=none
 z_int:mg "int"=none
 z_isinstance:mg "isinstance"=none
 z_len:mg "len"=none
 z_list:mg "list"=none
 z_max:mg "max"=none
 z_min:mg "min"=none
 z_range:mg "range"=none
 z_reversed:mg "reversed"=none
 z_sorted:mg "sorted"=none
 z_sum:mg "sum"=none
 z_tuple:mg "tuple"=none
 z_zip:mg "zip"=none
theorem Tx.e_NoPair{K:W.Frag}{mg:Str->Option Value}{t:Adr}(T:Tx K mg t):uv K t.a_NoPair:=⟨T.ga_NoPair,T.gn_NoPair,T.mb_NoPair,T.mo_NoPair,T.fc_NoPair,T.ocs,T.oct,T.hd_NoPair⟩
theorem Tx.e_NoMost{K:W.Frag}{mg:Str->Option Value}{t:Adr}(T:Tx K mg t):uv K t.a_NoMost:=⟨T.ga_NoMost,T.gn_NoMost,T.mb_NoMost,T.mo_NoMost,T.fc_NoMost,T.ocs,T.oct,T.hd_NoMost⟩
theorem Tx.k_NoPair_NoCount{K:W.Frag}{mg:Str->Option Value}{t:Adr}(T:Tx K mg t):W.kitOne K (.ref t.a_NoPair) (.ref t.a_NoCount)=some false:=qD T.kn_NoPair_NoCount T.kc_NoPair_NoCount T.kt_NoPair_NoCount T.ks_NoPair_NoCount
theorem Tx.k_NoPair_NoPair{K:W.Frag}{mg:Str->Option Value}{t:Adr}(T:Tx K mg t):W.kitOne K (.ref t.a_NoPair) (.ref t.a_NoPair)=some true:=vM T.kc_NoPair_NoPair T.kt_NoPair_NoPair T.ks_NoPair_NoPair
theorem Tx.k_NoPair_NoMost{K:W.Frag}{mg:Str->Option Value}{t:Adr}(T:Tx K mg t):W.kitOne K (.ref t.a_NoPair) (.ref t.a_NoMost)=some false:=qD T.kn_NoPair_NoMost T.kc_NoPair_NoMost T.kt_NoPair_NoMost T.ks_NoPair_NoMost
theorem Tx.k_NoPair_ValueError{K:W.Frag}{mg:Str->Option Value}{t:Adr}(T:Tx K mg t):W.kitOne K (.ref t.a_NoPair) (.type "ValueError")=some true:=Bv (by decide +kernel) T.ks_NoPair_ValueError
theorem Tx.k_NoMost_NoCount{K:W.Frag}{mg:Str->Option Value}{t:Adr}(T:Tx K mg t):W.kitOne K (.ref t.a_NoMost) (.ref t.a_NoCount)=some false:=qD T.kn_NoMost_NoCount T.kc_NoMost_NoCount T.kt_NoMost_NoCount T.ks_NoMost_NoCount
theorem Tx.k_NoMost_NoPair{K:W.Frag}{mg:Str->Option Value}{t:Adr}(T:Tx K mg t):W.kitOne K (.ref t.a_NoMost) (.ref t.a_NoPair)=some false:=qD T.kn_NoMost_NoPair T.kc_NoMost_NoPair T.kt_NoMost_NoPair T.ks_NoMost_NoPair
theorem Tx.k_NoMost_NoMost{K:W.Frag}{mg:Str->Option Value}{t:Adr}(T:Tx K mg t):W.kitOne K (.ref t.a_NoMost) (.ref t.a_NoMost)=some true:=vM T.kc_NoMost_NoMost T.kt_NoMost_NoMost T.ks_NoMost_NoMost
theorem Tx.k_NoMost_ValueError{K:W.Frag}{mg:Str->Option Value}{t:Adr}(T:Tx K mg t):W.kitOne K (.ref t.a_NoMost) (.type "ValueError")=some true:=Bv (by decide +kernel) T.ks_NoMost_ValueError
local macro_rules | `(tactic| trivial) => `(tactic| first | exact Or.inl rfl | exact Or.inr rfl | exact Or.inr (Or.inl rfl) | exact Or.inr (Or.inr rfl) | assumption)
local macro_rules | `(tactic| simp! only [$xs,*]) => do
  let ys := xs.getElems.map λ x => (⟨x.raw⟩ : Lean.TSyntax `Lean.Parser.Tactic.simpLemma)
  let zs ← ("↓reduceIte ↓mQ ↓EA ↓Ez ↓Ey ↓Ex ↓Ew ↓Eu ↓Et ↓Es ↓Er ↓Ep ↓AA ↓Az ↓Ay ↓Aw ↓Av ↓Bu ↓Ku ↓Kf ↓Mc ↓Kp ↓Kc ↓tm ↓pY ↓sZ ↓pW ↓HE ↓GX ↓Ih ↓G9 ↓Kt ↓Ke ↓HK ↓Kg ↓HW ↓GY ↓zL ↓D6 ↓Dn ↓xg ↓xf ↓xc ↓xb ↓xa ↓Dq ↓KD ↓Kh ↓Dk ↓qC ↓GV ↓D1 ↓Dl ↓HJ ↓jL ↓Ie ↓G8 ↓HC ↓GW ↓Kx ↓HH ↓Hm ↓HI ↓Kw ↓Kj ↓Hq ↓Hk ↓Hj ↓tu ↓p0 ↓nZ ↓pZ ↓wZ ↓wY ↓wX ↓wV ↓wU ↓wO ↓wR ↓wQ ↓wN ↓wM ↓wW ↓Ia ↓KG ↓Ki ↓HZ ↓G7 ↓Ig ↓wK ↓HA ↓sY ↓DQ ↓HB ↓Hf ↓DP ↓Hx ↓Dv ↓zG ↓zH ↓Il ↓Ky ↓Kk ↓aN ↓GZ ↓Kq ↓Ec ↓w9 ↓HL ↓Ij ↓Ko ↓zz ↓Ht ↓GU ↓zE ↓zw ↓DK ↓zI ↓zx ↓KH ↓oa ↓B5 ↓Kz ↓KA ↓KC ↓Hn ↓GH ↓Dp ↓DM ↓Di ↓ve ↓jT ↓jS ↓fz ↓gO ↓fy ↓me ↓bt ↓zJ ↓zK ↓HP ↓tw ↓ma ↓lZ ↓p3 ↓l0 ↓lY ↓DW ↓Hu ↓Hv ↓Hw ↓Kd ↓wI ↓DR ↓Dj ↓Kr ↓Ks ↓Hh ↓Hl ↓Mf ↓DB ↓DT ↓zB ↓HF ↓HG ↓Bt ↓Kv ↓Kl ↓DC ↓Hy ↓Hz ↓Ik ↓DI ↓Hi ↓HY ↓Eb ↓Ho ↓DF ↓DH ↓DG ↓Kn ↓Ii ↓bc ↓bU ↓cC ↓Du ↓Dt ↓Ds ↓kG ↓DX ↓DY ↓HN ↓Hs ↓DJ ↓DN ↓DO ↓Dx ↓tD ↓zF ↓DU ↓Dz ↓DV ↓wL ↓DA ↓HX ↓DD ↓zA ↓DZ ↓D0 ↓wJ ↓HQ ↓HR ↓Ed ↓HV ↓Dm ↓HS ↓HU ↓Dr ↓GS ↓GR ↓GQ ↓GP ↓GO ↓GN ↓GL ↓GK ↓GJ ↓GI ↓Dh ↓Dg ↓Df ↓De ↓Dd ↓Km ↓Me ↓Md ↓zD ↓Dw ↓Ea ↓DE ↓HD ↓Hr ↓DS ↓Dy ↓D7 ↓D8 ↓D9 ↓zC ↓Ee ↓zM ↓HM ↓zy ↓Ib ↓Ic ↓G0 mQ dA aQ ki yW yV zO yT uk aj Cn Cp Co Cs FX Ct Cq Cr yQ Ap El Ao An rl Mn yZ AQ EE KY KW KU fP cT rE cj aL rF dv EO IH IG EN Option.isSome_some Option.isSome_none Option.map_some List.length_cons List.length_nil List.length_map List.map_cons List.map_nil and_true true_and and_self implies_true reduceCtorEq decide_true decide_false Bool.not_true Bool.not_false if_true if_false decide_eq_true_eq Bool.false_eq_true Bool.not_eq_true' decide_eq_false_iff_not Bool.and_true Bool.true_and Bool.and_self Bool.and_eq_true Int.reduceToNat Int.reducePow Int.reduceMul Int.reduceAdd Int.reduceSub Int.reduceNeg Int.reduceLT Int.reduceLE Int.reduceEq Int.reduceNe Int.reduceDiv Int.reduceMod Nat.reduceAdd Nat.reduceLeDiff Nat.reduceLT Nat.reduceMul Nat.reducePow gt_iff_lt ge_iff_le ne_eq false_implies true_implies eq_self String.reduceEq Int.cast_ofNat_Int not_true_eq_false not_false_eq_true false_and and_false List.cons_append List.nil_append List.append_nil KI".splitOn " ").toArray.mapM λ s => if s.startsWith "↓" then `(Lean.Parser.Tactic.simpLemma| ↓ $(Lean.mkIdent (s.replace "↓" "").toName):ident) else `(Lean.Parser.Tactic.simpLemma| $(Lean.mkIdent s.toName):ident)
  `(tactic| simp (config := { failIfUnchanged := false, maxDischargeDepth := 30, maxSteps := 10000000 }) only [$zs,*, $ys,*, *])
local macro_rules | `(%[$xs,*|$k:num]) => do
  let a := xs.getElems
  let s (i : Nat) : String := a[i]!.raw.getId.toString
  let I (n : String) : Lean.TSyntax `term := ⟨(Lean.mkIdent n.toName).raw⟩
  match k.getNat with
  | 47 => `($(a[0]!) (P := $(I "P")) (w := $(I "w")) (base := $(I "base")) $(I "T"))
  | 0 => `(@pvN _ $(a[0]!) _ _ (by rfl) (by trivial) (by decide) (by decide))
  | 1 => if a.size = 1 then `(@E6 _ _ _ _ _ $(a[0]!) (@cF _) (by rfl)) else `(@E6 _ _ _ _ _ $(a[0]!) $(a[1]!) (by rfl))
  | 2 => `(@eP _ _ _ _)
  | 7 => `(by trivial)
  | 8 => `(by omega)
  | 3 => `(@kD _ _ _ _ _ _ _ _ _ _ _ _ _ _ _ _ $(I ("G_" ++ s 0)) ($(I "hr.mono") (by decide)) (by rfl) $(I ("T.m_" ++ s 0)) $(I ("T.F_" ++ s 0 ++ ".kp")) $(I ("T.b_" ++ s 0)) .nil oK $(a[1]!) (by decide) (by rfl) (by rfl))
  | 4 => `(@gf _ _ $(a[0]!) _ _ _ _ ($(a[1]!)).nd rfl (Or.inl rfl) $(a[2]!) (by rfl) (by trivial))
  | 5 => `(@vH _ _ $(a[0]!) _ ($(a[1]!)).nd rfl (Or.inl rfl) (by trivial))
  | 6 => `(@ik _ _ _ _ _ _ _ $(Lean.Syntax.mkStrLit (s 0)) _ $(a[1]!) (by rfl) $(I ("T.z_" ++ s 0)) (by decide +kernel) $(a[2]!) (by decide) (by decide) (by rfl) (by rfl))
  | 9 => `(@gm _ _ _ _ _ $(a)*)
  | 10 => `(@eO _ _ _ _ _ _ _ _ $(a)*)
  | 11 => `(@kC _ _ _ $(a)*)
  | 12 => `(@BW _ _ _ _ _ _ _ $(a)*)
  | 13 => `(@u6 _ _ _ _ $(a)*)
  | 14 => `(@y8 _ _ _ _ _ _ _ _ $(a)*)
  | 15 => `(@wA _ _ _ _ _ $(a)*)
  | 16 => `(@BU _ _ _ _ _ _ _ _ $(a)*)
  | 17 => `(@CM _ _ _ _ _ $(a)*)
  | 18 => `(@vH _ _ $(a)*)
  | 19 => `(@CN _ _ _ _ $(a)*)
  | 20 => `(@Gq _ _ _ _ _ $(a)*)
  | 21 => `(@aW _ _ _ $(a)*)
  | 22 => `(@JY _ _ _ _ _ _ _ $(a)*)
  | 23 => `(@Bo _ _ _ _ $(a)*)
  | 24 => `(@CD _ _ _ $(a)*)
  | 25 => `(@Gg _ _ _ _ $(a)*)
  | 26 => `(@cO _ _ _ $(a)*)
  | 27 => `(@CP _ _ _ _ _ _ _ _ _ _ _ $(a)*)
  | 28 => `(@Gd _ _ _ _ $(a)*)
  | 29 => `(@CO _ _ _ _ _ $(a)*)
  | 30 => `(@Gj _ _ _ _ _ _ _ _ $(a)*)
  | 31 => `(@CS _ _ $(a)*)
  | 32 => `(@Ge _ _ _ _ _ _ _ $(a)*)
  | 33 => `(@CQ _ _ _ _ _ _ _ _ $(a)*)
  | 34 => `(@CB _ _ _ _ $(a)*)
  | 35 => `(@CT _ _ _ _ _ _ _ $(a)*)
  | 36 => `(@CG _ _ _ _ $(a)*)
  | 37 => `(@Gu _ _ _ _ _ $(a)*)
  | 38 => `(@wC _ _ _ _ _ _ _ _ _ $(a)*)
  | 39 => `(@Gk _ _ _ _ _ _ $(a)*)
  | 40 => `(@CH _ _ _ _ _ _ _ _ _ $(a)*)
  | 41 => `(@zj _ _ _ _ _ _ _ _ _ $(a)*)
  | 42 => `(@J0 _ _ _ _ _ _ _ _ _ _ _ _ $(a)*)
  | 43 => `(@zc _ _ _ _ _ _ _ _ _ _ $(a)*)
  | 44 => `(@Gm _ _ _ _ _ _ _ _ _ $(a)*)
  | 45 => `(@CF _ _ _ _ _ _ _ _ _ _ _ _ _ $(a)*)
  | 46 => `(@zd _ _ _ _ _ _ _ _ _ _ _ _ _ _ _ _ _ $(a)*)
  | _ => Lean.Macro.throwUnsupported
local macro_rules | `(∅) => `(by rfl)
local macro_rules | `(⋯) => `(by decide)
local macro_rules | `(nofun) => `(by decide +kernel)
local macro_rules | `(tactic| ac_rfl) => `(tactic| simp! only [and_true])
local macro_rules | `(tactic| exists $x:ident) => `(tactic| replace $x := λ (_ : Unit) => $x)
section
variable {P:Program}{w:World}{K:PySem.W.Frag}{mg:Str->Option Value}{base:Heap}{t:Adr}
def u3(K:W.Frag)(a:Addr)(ns:List Int):Sp:=λ vs H Q E=>∃ (k:Int) (m:Int),vs=[.ref a,.int k,.int m]/\(SqL K H a (ns.map V.int)/\ns.length<=63/\(0<=k/\k < 1000)/\0 < m/\∀ z:Int,0<=z->z < m->Q (.int z) H)
theorem aU(K:W.Frag)(a:Addr)(ns:List Int)(k:Int)(m:Int)(H:Hp)(Q:VK)(E:XK):u3 K a ns [.ref a,.int k,.int m] H Q E=(SqL K H a (ns.map V.int)/\ns.length<=63/\(0<=k/\k < 1000)/\0 < m/\∀ z:Int,0<=z->z < m->Q (.int z) H):=qj (f:=λ (k:Int) (m:Int)=>[.ref a,.int k,.int m]) (λ _ _ _ _ h=>by cases h;exact⟨rfl,rfl⟩) k m
theorem Ag(K:W.Frag)(a:Addr)(ns:List Int){vs:List V}{H:Hp}{Q:VK}{E:XK}(h:u3 K a ns vs H Q E):vs.length=3:=qm h λ _ _=>rfl
theorem cy(T:Tx K mg t)(a:Addr)(ns:List Int):bj P w K mg base CX0 1 t.a__law_draw t.d__law_draw ["_law_script", "_law_k", "_law_many"] (u3 K a ns):=by
 refine T.F__law_draw.ok eC (λ vs H Q E h=>Ag _ _ _ h) (λ c A o s H vs Q E hr h=>?_)
 ·obtain⟨k,m,rfl,hS,hl,⟨hk0,hk1⟩,hm,kk⟩:=h;have fin:∀ z:Int,Q (.int (z % m)) H:=λ z=>kk _ (Nr _ %[0|8]) (NH _ hm)
  refine⟨_,(gm (BU (pD Fx (pv 1) (ik (id := "len") dr ∅ T.z_len nofun (E6 (pv 0) cF)) (ae _))
   (kC (u6 (eO iI (BW pI (pv 0) (pv 1) (λ _ _=>rfl)) (pv 2))))
   ah)
  (gm (gf (i:=3) eC.nd rfl (Or.inl rfl) (eO qy (eO gS (eO gS (pv 1) (pv 1)) eP) eP))
  (gm (BU (pD Fy (ik (id := "len") dr ∅ T.z_len nofun (E6 (pv 0) cF)) eP (ae _))
   (gm (gf (i:=4) eC.nd rfl (Or.inl rfl) (eO iI (BW pI (pv 0) (eO iI (pv 1) (ik (id := "len") dr ∅ T.z_len nofun (E6 (pv 0) cF))) (λ _ _=>rfl)) eP))
   (kC (gf (i:=3) eC.nd rfl (Or.inl rfl) (eO qy (eO gS (pv 4) (eO qy eP (eO gS (eO gS eP (pv 1)) (pv 1)))) (eO gS (pv 1) eP)))))
   ah)
  (kC (u6 (eO iI (eO iI (eO gS (eO iI (pv 3) eP) eP) eP) (pv 2))))))),?_⟩
  refine⟨_,rfl,_,rfl,a,_,rfl,.inl hS,_,_,rfl,rfl,_,rfl,?_⟩;refine LH (λ h=>?_) (λ h=>?_)
  ·have h1:k < (ns.length:Int):=by simpa using h
   obtain⟨z,hz,_⟩:=rQ ns k hk0 h1;exact⟨_,rfl,_,rfl,a,_,k,_,rfl,rfl,hS,hz,_,rfl,_,_,rfl,rfl,hm,fin _⟩
  ·refine⟨_,rfl,_,rfl,_,_,rfl,rfl,.inl ⟨by omega,by omega⟩,_,_,rfl,rfl,.inr ⟨by decide,by decide⟩,_,_,rfl,rfl,?_⟩;refine⟨_,rfl,a,_,rfl,.inl hS,_,_,rfl,rfl,_,rfl,?_⟩;refine LH (λ h2=>?_) (λ h2=>?_)
   ·have h3:0 < (ns.length:Int):=by simpa using h2
    have h4:(0:Int) < ((ns.map V.int).length:Int):=by simpa using h3
    obtain⟨z,hz,_⟩:=rQ ns (k % ((ns.map V.int).length:Int)) (Nr _ %[0|8]) (by have:=NH k h4;simpa using this);refine⟨_,rfl,_,rfl,_,rfl,a,_,rfl,.inl hS,_,_,rfl,rfl,h4,a,_,_,_,rfl,rfl,hS,hz,_,_,rfl,rfl,(by first|decide|(show (0:Int) < _;decide)),?_⟩;refine⟨_,rfl,_,rfl,_,_,rfl,rfl,.inl ⟨by decide,by decide⟩,_,rfl,_,_,rfl,rfl,.inr ⟨by omega,by omega⟩,_,_,rfl,rfl,_,_,rfl,rfl,?_,?_⟩
    ·refine .inl ⟨?_,?_⟩
     ·have:=Nr z (show (999999937:Int) ≠ 0 by decide);omega
     ·have:=NH z (show (0:Int) < 999999937 by decide);omega
    refine⟨_,rfl,_,_,rfl,rfl,.inr ⟨by decide,by decide⟩,_,_,rfl,rfl,?_⟩;exact⟨_,rfl,_,_,rfl,rfl,(by first|decide|(show (0:Int) < _;decide)),_,_,rfl,rfl,.inr ⟨by decide,by decide⟩,_,_,rfl,rfl,(by first|decide|(show (0:Int) < _;decide)),_,rfl,_,_,rfl,rfl,hm,fin _⟩
   ·exact⟨_,rfl,_,_,rfl,rfl,(by first|decide|(show (0:Int) < _;decide)),_,_,rfl,rfl,.inr ⟨by decide,by decide⟩,_,_,rfl,rfl,(by first|decide|(show (0:Int) < _;decide)),_,rfl,_,_,rfl,rfl,hm,fin _⟩
def kr  : Sp:=λ vs H Q E=>∃ (x:V),vs=[x]/\(aV (isW H x) (kE4 H Q))
theorem aR  (x:V) (H:Hp) (Q:VK) (E:XK):kr  [x] H Q E=(aV (isW H x) (kE4 H Q)):=qk (f:=λ (x:V)=>[x]) (λ _ _ h=>by cases h;exact rfl) x
theorem mY  {vs:List V}{H:Hp}{Q:VK}{E:XK}(h:kr  vs H Q E):vs.length=1:=oF h λ _=>rfl
theorem eF(T:Tx K mg t):bj P w K mg base CX0 1 t.a__law_whole t.d__law_whole ["_law_found"] kr:=by
 refine T.F__law_whole.ok oq (λ vs H Q E h=>mY h) (λ c A o s H vs Q E hr h=>?_)
 ·obtain⟨x,rfl,h⟩:=h;obtain⟨b,hb,k⟩:=au h;clear h;rw [B5] at k;refine⟨_,%[%[%[%[isinstance,bf,%[%[0|0],%[%[(.ty "int"),(.type "int"),_,∅,T.z_int,nofun,rfl,⋯,⋯|31]|1]|1]|6],%[(@vI _ _ _ _ %[isinstance,bf,%[%[0|0],%[%[(.ty "bool"),(.type "bool"),_,∅,T.z_bool,nofun,rfl,⋯,⋯|31]|1]|1]|6])|37]|35]|13]|11],?_⟩;rw [show aE ["_law_found"] [x]=[some (x)] from rfl]
  cases x with
  | int i=>cases hb;ac_rfl
  | bl i=>cases hb;ac_rfl
  | non=>cases hb;ac_rfl
  | str i=>cases hb;ac_rfl
  | ref p=>
   obtain⟨rfl,o,ho,ht⟩:=vP hb
   rcases ht with ht|ht|ht<;>ac_rfl
  | _=>cases hb
theorem cZ(T:Tx K mg t):bj P w K mg base CX0 1 t.a_is_whole t.d_is_whole ["thing"] kr:=by
 refine T.F_is_whole.ok uh (λ vs H Q E h=>mY h) (λ c A o s H vs Q E hr h=>?_)
 ·obtain⟨x,rfl,h⟩:=h;obtain⟨b,hb,k⟩:=au h;clear h;rw [B5] at k;refine⟨_,%[%[%[%[isinstance,bf,%[%[0|0],%[%[(.ty "int"),(.type "int"),_,∅,T.z_int,nofun,rfl,⋯,⋯|31]|1]|1]|6],%[(@vI _ _ _ _ %[isinstance,bf,%[%[0|0],%[%[(.ty "bool"),(.type "bool"),_,∅,T.z_bool,nofun,rfl,⋯,⋯|31]|1]|1]|6])|37]|35]|13]|11],?_⟩;rw [show aE ["thing"] [x]=[some (x)] from rfl]
  cases x with
  | int i=>cases hb;ac_rfl
  | bl i=>cases hb;ac_rfl
  | non=>cases hb;ac_rfl
  | str i=>cases hb;ac_rfl
  | ref p=>
   obtain⟨rfl,o,ho,ht⟩:=vP hb
   rcases ht with ht|ht|ht<;>ac_rfl
  | _=>cases hb
def kL  : Sp:=λ vs H Q E=>∃ (i:Int) (lo:Int) (hi:Int),vs=[.int i,.int lo,.int hi]/\(Q (.bl (decide (lo<=i) && decide (i<=hi))) H)
theorem jX  (i:Int) (lo:Int) (hi:Int) (H:Hp) (Q:VK) (E:XK):kL  [.int i,.int lo,.int hi] H Q E=(Q (.bl (decide (lo<=i) && decide (i<=hi))) H):=qi (f:=λ (i:Int) (lo:Int) (hi:Int)=>[.int i,.int lo,.int hi]) (λ _ _ _ _ _ _ h=>by cases h;exact⟨rfl,rfl,rfl⟩) i lo hi
theorem tG  {vs:List V}{H:Hp}{Q:VK}{E:XK}(h:kL  vs H Q E):vs.length=3:=ql h λ _ _ _=>rfl
theorem gY(T:Tx K mg t):bj P w K mg base CX0 2 t.a_is_within t.d_is_within ["thing", "low", "high"] kL:=by
 have G_is_whole:=%[cZ|47];refine T.F_is_within.ok qg (λ vs H Q E h=>tG h) (λ c A o s H vs Q E hr h=>?_)
 ·obtain⟨i,lo,hi,rfl,k⟩:=h;refine⟨_,%[%[%[%[is_whole,%[%[0|0]|1]|3],%[(@wB _ _ _ _ _ _ _ _ _ _ _ _ iF iF %[1|0] %[0|0] %[2|0] ∅)|37]|35]|13]|11],?_⟩;rw [show aE ["thing", "low", "high"] [.int i,.int lo,.int hi]=[some (.int i),some (.int lo),some (.int hi)] from rfl]
  by_cases h0:lo<=i
  ·rw [MY h0,Bool.true_and] at k;simp! only [↓aR]
  ·rw [M3 h0,Bool.false_and] at k;simp! only [↓aR]
def uM  : Sp:=λ vs H Q E=>∃ (i:Int),vs=[.int i]/\(Q (.bl (decide (1<=i) && decide (i<=1000000000))) H)
theorem AU  (i:Int) (H:Hp) (Q:VK) (E:XK):uM  [.int i] H Q E=(Q (.bl (decide (1<=i) && decide (i<=1000000000))) H):=qk (f:=λ (i:Int)=>[.int i]) (λ _ _ h=>by cases h;exact rfl) i
theorem zR  {vs:List V}{H:Hp}{Q:VK}{E:XK}(h:uM  vs H Q E):vs.length=1:=oF h λ _=>rfl
theorem sP(T:Tx K mg t):bj P w K mg base CX0 3 t.a_is_size t.d_is_size ["thing"] uM:=by
 have G_is_within:=%[gY|47];refine T.F_is_size.ok yj (λ vs H Q E h=>zR h) (λ c A o s H vs Q E hr h=>?_)
 ·obtain⟨i,rfl,k⟩:=h;refine⟨_,%[%[%[is_within,%[%[0|0],%[%[0|2],%[(@er _ _ (.int 1000000000) _ _ ∅ T.m_MOST_SIZE.choose_spec ⟨_,rfl⟩ ⋯)|1]|1]|1]|3]|13]|11],?_⟩;rw [show aE ["thing"] [.int i]=[some (.int i)] from rfl];simp! only [↓jX]
abbrev sy  (p:Addr) (H:Hp) (Q:VK) (E:XK):Prop:=∃ a:Int × Int,H p=some (.tup [.int a.1,.int a.2])/\1<=a.1/\a.1<=1000000000/\Q (.bl true) H
def u4  : Sp:=λ vs H Q E=>∃ (p:Addr),vs=[.ref p]/\(sy  p H Q E)
theorem A4  (p:Addr) (H:Hp) (Q:VK) (E:XK):u4  [.ref p] H Q E=(sy  p H Q E):=qk (f:=λ (p:Addr)=>[.ref p]) (λ _ _ h=>by cases h;exact rfl) p
theorem Ah  {vs:List V}{H:Hp}{Q:VK}{E:XK}(h:u4  vs H Q E):vs.length=1:=oF h λ _=>rfl
theorem sQ(T:Tx K mg t):bj P w K mg base CX0 4 t.a_is_axis t.d_is_axis ["thing"] u4:=by
 have G_is_size:=%[sP|47];have G_is_whole:=%[cZ|47];refine T.F_is_axis.ok yk (λ vs H Q E h=>Ah h) (λ c A o s H vs Q E hr h=>?_)
 ·obtain⟨p,rfl,a,hp,h1,h2,k⟩:=h;refine⟨_,%[%[%[%[isinstance,bf,%[%[0|0],%[%[(.ty "tuple"),(.type "tuple"),_,∅,T.z_tuple,nofun,rfl,⋯,⋯|31]|1]|1]|6],%[%[(bG hr.units),%[len,aA,%[%[0|0]|1]|6],%[0|2],(ae _)|33],%[%[is_size,%[%[aH,%[0|0],%[0|2],(λ _ _=>rfl)|12]|1]|3],%[%[is_whole,%[%[aH,%[0|0],%[0|2],(λ _ _=>rfl)|12]|1]|3]|37]|35]|35]|35]|13]|11],?_⟩;rw [show aE ["thing"] [.ref p]=[some (.ref p)] from rfl];simp! only [↓AU,↓aR]
abbrev rW  (p:Addr) (H:Hp) (Q:VK) (E:XK):Prop:=∃ a:Int × Int,H p=some (.tup [.int a.1,.int a.2])/\∀ (r:Addr) (H':Hp),H r=none->Ext H H'->H' r=some (.tup [.int (af a).1,.int (af a).2])->Q (.ref r) H'
def uQ  : Sp:=λ vs H Q E=>∃ (p:Addr),vs=[.ref p]/\(rW  p H Q E)
theorem AX  (p:Addr) (H:Hp) (Q:VK) (E:XK):uQ  [.ref p] H Q E=(rW  p H Q E):=qk (f:=λ (p:Addr)=>[.ref p]) (λ _ _ h=>by cases h;exact rfl) p
theorem zV  {vs:List V}{H:Hp}{Q:VK}{E:XK}(h:uQ  vs H Q E):vs.length=1:=oF h λ _=>rfl
theorem nP(T:Tx K mg t):bj P w K mg base CX0 1 t.a_kept_axis t.d_kept_axis ["axis"] uQ:=by
 refine T.F_kept_axis.ok qf (λ vs H Q E h=>zV h) (λ c A o s H vs Q E hr h=>?_)
 ·obtain⟨p,rfl,a,hp,k⟩:=h;refine⟨_,%[%[%[%[%[aH,%[0|0],%[0|2],(λ _ _=>rfl)|12],%[(@ic _ _ _ _ _ _ _ _ %[dz,%[aH,%[0|0],%[0|2],(λ _ _=>rfl)|12],%[0|2],(ae _)|14] %[aH,%[0|0],%[0|2],(λ _ _=>rfl)|12] %[0|2])|1]|1]|17]|13]|11],?_⟩;rw [show aE ["axis"] [.ref p]=[some (.ref p)] from rfl];have e1:(af a).1=a.1:=rfl
  by_cases h1:1 < a.1
  ·have e2:(af a).2=a.2:=MI h1;rw [e1,e2] at k;ac_rfl;exact λ r H' h e h'=>k r H' h e h'
  ·have e2:(af a).2=0:=MH h1;rw [e1,e2] at k;ac_rfl;exact λ r H' h e h'=>k r H' h e h'
abbrev sC  (p:Addr) (H:Hp) (Q:VK) (E:XK):Prop:=∃ axs:List (Int × Int),dO H p (axL axs)/\mn axs/\∀ H',Ext H H'->Q (.bl true) H'
def u5  : Sp:=λ vs H Q E=>∃ (p:Addr),vs=[.ref p]/\(sC  p H Q E)
theorem A5  (p:Addr) (H:Hp) (Q:VK) (E:XK):u5  [.ref p] H Q E=(sC  p H Q E):=qk (f:=λ (p:Addr)=>[.ref p]) (λ _ _ h=>by cases h;exact rfl) p
theorem Ai  {vs:List V}{H:Hp}{Q:VK}{E:XK}(h:u5  vs H Q E):vs.length=1:=oF h λ _=>rfl
theorem pR(T:Tx K mg t):bj P w K mg base CX0 5 t.a_are_axes t.d_are_axes ["thing"] u5:=by
 have G_is_axis:=%[sQ|47];refine T.F_are_axes.ok ui (λ vs H Q E h=>Ai h) (λ c A o s H vs Q E hr h=>?_)
 ·obtain⟨p,rfl,axs,⟨ys,hp,al⟩,ha,k⟩:=h;refine⟨_,%[%[%[%[isinstance,bf,%[%[0|0],%[%[(.ty "list"),(.type "list"),_,∅,T.z_list,nofun,rfl,⋯,⋯|31]|1]|1]|6],%[%[iF,%[len,aA,%[%[0|0]|1]|6],(@er _ _ (.int 8) _ _ ∅ T.m_MOST_AXES.choose_spec ⟨_,rfl⟩ ⋯),(ae _)|33],%[%[all,(xT rfl),%[%[(["axis", "thing"]),(1),(aK (aa fm) ["thing"] rfl rfl nofun),rfl,%[%[0|0]|23],(λ C s₀ H₀ ex pn=>%[(0),_,(show List.Nodup (["axis", "thing"]:List Str) from by decide +kernel),rfl,(Or.inl rfl),%[0|7]|18]),(λ C s₀ H₀ ex pn=>(@aM _)),(λ C s₀ H₀ ex pn=>%[is_axis,%[%[0|0]|1]|3]),(by intros;rfl)|27]|1]|6]|37]|35]|35]|13]|11],?_⟩;rw [show aE ["thing"] [.ref p]=[some (.ref p)] from rfl];have hl:ys.length=axs.length:=by rw [al.1];unfold axL;rw [length_map]
  have hl8:(axs.length:Int)<=8:=by have:=ha.1;omega
  ac_rfl;refine bH ys (λ _=>true) (λ _=>.bl true) (λ z x H'=>x=z/\H' p=some (.lst ys)) (qr hp).1 (qr hp).2 (az %[0|8]) ?_ ?_
  ·intro D z x H' N1 N0 hz hD e ⟨hx,_⟩ k1 _;subst hx;obtain⟨i,hi,rfl⟩:=List.getElem_of_mem hz;have hi':i < axs.length:=by rw [←hl];exact hi
   obtain⟨q,hq1,hq2⟩:=al.2 i [axs[i].1,axs[i].2] ys[i] (by unfold axL;rw [getElem?_map,getElem?_eq_getElem hi'];rfl) (getElem?_eq_getElem hi);have hb:=ha.2 _ (getElem_mem hi');have k1':=k1 rfl H' (Ext.refl _);have hq3:=e.at hq2;rw [hq1];clear k1 k hp al;simp! only [↓bU,↓bc];rw [A4];exact⟨axs[i],hq3,hb.1,hb.2,k1'⟩
  ·intro D H' hD e hD';have hD2:H' D=some (.lst ((ys.map λ _=>true).map V.bl)):=by rw [hD',iC,NO];rfl
   have e2:((ys.map λ _=>true).all id)=true:=by rw [List.all_map];simp
   have k2:=k H' e;clear k hD';ac_rfl
theorem Ll(x:Int):min 0 x=if x < 0 then x else 0:=by split<;>omega
theorem Lm(x:Int):max 0 x=if 0 < x then x else 0:=by split<;>omega
structure aJ(C:Addr)(H:Hp)(v:Addr)(room first:Int)(axs:List (Int × Int)):Prop where
 ob:∃ dx l,H v=some (.ins C dx (eK room first l))/\dO H l (axL axs)
theorem aJ.ext{C:Addr}{H H':Hp}{v:Addr}{room first:Int}{axs:List (Int × Int)}(h:aJ C H v room first axs)(e:Ext H H'):aJ C H' v room first axs:=by
 obtain⟨dx,l,h1,h2⟩:=h.ob;exact⟨⟨dx,l,e.at h1,h2.ext e⟩⟩
theorem BX{m:Str}(h:m∈([("sizes":Str), "paces", "count", "cell", "cell_at", "cells", "least", "greatest"]:List Str)):¬ m = "axes" /\ ¬ m = "first" /\ ¬ m = "room":=by
 revert m
 decide +kernel
theorem vn(room first:Int)(l:Addr){m:Str}(h:m∈([("sizes":Str), "paces", "count", "cell", "cell_at", "cells", "least", "greatest"]:List Str)):(eK room first l).lookup m=none:=yO room first l (BX h).1 (BX h).2.1 (BX h).2.2
abbrev ny(C:Addr)(v:Addr)(H:Hp)(Q:VK)(E:XK):Prop:=∃ (room first:Int) (axs:List (Int × Int)),aJ C H v room first axs/\mn axs/\∀ H',Ext H H'->Q (.int (first+bP axs)) H'
def ku(C:Addr):Sp:=λ vs H Q E=>∃ (v:Addr),vs=[.ref v]/\(ny C v H Q E)
theorem xZ(C:Addr)(v:Addr)(H:Hp)(Q:VK)(E:XK):ku C [.ref v] H Q E=(ny C v H Q E):=qk (f:=λ (v:Addr)=>[.ref v]) (λ _ _ h=>by cases h;exact rfl) v
theorem xk(C:Addr){vs:List V}{H:Hp}{Q:VK}{E:XK}(h:ku C vs H Q E):vs.length=1:=oF h λ _=>rfl
theorem lW(T:Tx K mg t):bj P w K mg base CX0 1 t.a_View_least t.d_View_least ["self"] (ku t.a_View):=by
 refine T.F_View_least.ok oy (λ vs H Q E h=>xk _ h) (λ c A o s H vs Q E hr h=>?_)
 ·obtain⟨v,rfl,room,first,axs,vo,hax,k⟩:=h;obtain⟨dx,l,hv,ys,hl,al⟩:=vo.ob;have c1:=T.cl_View;have c2:=T.na_View_first;have c3:=T.na_View_axes
  have f1:=cX room first l
  have f2:=dU room first l
  refine⟨_,%[%[%[aD,%[%[0|0],rfl|29],%[sum,(bZ rfl),%[%[(["size", "pace", "self"]),(2),(aK (aa dn) ["self"] rfl rfl nofun),rfl,%[%[%[0|0],rfl|29]|23],(λ C s₀ H₀ ex pn=>(%[(2),rfl,%[%[(0),_,(show List.Nodup (["size", "pace", "self"]:List Str) from by decide +kernel),rfl,(Or.inl rfl),%[0|7]|18],%[%[(1),_,(show List.Nodup (["size", "pace", "self"]:List Str) from by decide +kernel),rfl,(Or.inl rfl),%[0|7]|18],(@aw _),∅|15],∅|15],∅,∅|20].mono λ _ _ _ _ h=>aX h)),(λ C s₀ H₀ ex pn=>(@aM _)),(λ C s₀ H₀ ex pn=>%[min,(cU rfl),%[%[0|2],%[%[bO,%[aB,%[0|0],%[0|2]|10],%[1|0]|10]|1]|1]|6]),(by intros;rfl)|27]|1]|6]|10]|13]|11],?_⟩;rw [show aE ["self"] [.ref v]=[some (.ref v)] from rfl];ac_rfl;have wk:=fK (K:=K) (R:=axP) (λ _ _ _ _ h e=>h.ext e) hl (mF al);refine bH axs (λ _=>true) (λ a=>.int (min 0 ((a.1 - 1) * a.2))) axP wk.1 wk.2 (az (by have:=hax.1;omega)) ?_ ?_
  ·intro D a x H' N1 N0 ha hD e ⟨q,hx,hq⟩ k1 _;subst hx;have hb:=hax.2 a ha;have k1':=k1 rfl H' (Ext.refl _);have hcm:iE (a.1 - 1) a.2:=.inl ⟨by omega,by omega⟩;rw [Ll] at k1';clear k1 k;simp! only [↓cC,↓bc]
  ·intro D H' hD e hD';have hD2:H' D=some (.lst ((axs.map λ a=>min 0 ((a.1 - 1) * a.2)).map V.int)):=by rw [hD',iC,NO];rfl
   have k2:Q (.int (first+(axs.map λ a=>min 0 ((a.1 - 1) * a.2)).sum)) H':=k H' e;clear k hD';ac_rfl
abbrev gZ(C:Addr)(v:Addr)(H:Hp)(Q:VK)(E:XK):Prop:=∃ (room first:Int) (axs:List (Int × Int)),aJ C H v room first axs/\mn axs/\∀ H',Ext H H'->Q (.int (first+bQ axs)) H'
def gI(C:Addr):Sp:=λ vs H Q E=>∃ (v:Addr),vs=[.ref v]/\(gZ C v H Q E)
theorem om(C:Addr)(v:Addr)(H:Hp)(Q:VK)(E:XK):gI C [.ref v] H Q E=(gZ C v H Q E):=qk (f:=λ (v:Addr)=>[.ref v]) (λ _ _ h=>by cases h;exact rfl) v
theorem og(C:Addr){vs:List V}{H:Hp}{Q:VK}{E:XK}(h:gI C vs H Q E):vs.length=1:=oF h λ _=>rfl
theorem hJ(T:Tx K mg t):bj P w K mg base CX0 1 t.a_View_greatest t.d_View_greatest ["self"] (gI t.a_View):=by
 refine T.F_View_greatest.ok jA (λ vs H Q E h=>og _ h) (λ c A o s H vs Q E hr h=>?_)
 ·obtain⟨v,rfl,room,first,axs,vo,hax,k⟩:=h;obtain⟨dx,l,hv,ys,hl,al⟩:=vo.ob;have c1:=T.cl_View;have c2:=T.na_View_first;have c3:=T.na_View_axes
  have f1:=cX room first l
  have f2:=dU room first l
  refine⟨_,%[%[%[aD,%[%[0|0],rfl|29],%[sum,(bZ rfl),%[%[(["size", "pace", "self"]),(2),(aK (aa b8) ["self"] rfl rfl nofun),rfl,%[%[%[0|0],rfl|29]|23],(λ C s₀ H₀ ex pn=>(%[(2),rfl,%[%[(0),_,(show List.Nodup (["size", "pace", "self"]:List Str) from by decide +kernel),rfl,(Or.inl rfl),%[0|7]|18],%[%[(1),_,(show List.Nodup (["size", "pace", "self"]:List Str) from by decide +kernel),rfl,(Or.inl rfl),%[0|7]|18],(@aw _),∅|15],∅|15],∅,∅|20].mono λ _ _ _ _ h=>aX h)),(λ C s₀ H₀ ex pn=>(@aM _)),(λ C s₀ H₀ ex pn=>%[max,(cV rfl),%[%[0|2],%[%[bO,%[aB,%[0|0],%[0|2]|10],%[1|0]|10]|1]|1]|6]),(by intros;rfl)|27]|1]|6]|10]|13]|11],?_⟩;rw [show aE ["self"] [.ref v]=[some (.ref v)] from rfl];ac_rfl;have wk:=fK (K:=K) (R:=axP) (λ _ _ _ _ h e=>h.ext e) hl (mF al);refine bH axs (λ _=>true) (λ a=>.int (max 0 ((a.1 - 1) * a.2))) axP wk.1 wk.2 (az (by have:=hax.1;omega)) ?_ ?_
  ·intro D a x H' N1 N0 ha hD e ⟨q,hx,hq⟩ k1 _;subst hx;have hb:=hax.2 a ha;have k1':=k1 rfl H' (Ext.refl _);have hcm:iE (a.1 - 1) a.2:=.inl ⟨by omega,by omega⟩;rw [Lm] at k1';clear k1 k;simp! only [↓cC,↓bc]
  ·intro D H' hD e hD';have hD2:H' D=some (.lst ((axs.map λ a=>max 0 ((a.1 - 1) * a.2)).map V.int)):=by rw [hD',iC,NO];rfl
   have k2:Q (.int (first+(axs.map λ a=>max 0 ((a.1 - 1) * a.2)).sum)) H':=k H' e;clear k hD';ac_rfl
def Lo(H:Hp)(Q:VK)(f:Int × Int->Int)(axs:List (Int × Int)):Prop:=∀ (r:Addr) (H':Hp),H r=none->Ext H H'->H' r=some (.lst ((axs.map f).map V.int))->Q (.ref r) H'
abbrev um(C:Addr)(v:Addr)(H:Hp)(Q:VK)(E:XK):Prop:=∃ (room first:Int) (axs:List (Int × Int)),aJ C H v room first axs/\axs.length<=8/\Lo H Q (λ a=>a.1) axs
def Jc(C:Addr):Sp:=λ vs H Q E=>∃ (v:Addr),vs=[.ref v]/\(um C v H Q E)
abbrev uo(C:Addr)(v:Addr)(H:Hp)(Q:VK)(E:XK):Prop:=∃ (room first:Int) (axs:List (Int × Int)),aJ C H v room first axs/\axs.length<=8/\Lo H Q (λ a=>a.2) axs
def Jd(C:Addr):Sp:=λ vs H Q E=>∃ (v:Addr),vs=[.ref v]/\(uo C v H Q E)
def oU(C:Addr):Sp:=λ vs H Q E=>∃ (x:Addr) (room:Int) (first:Int) (l:Addr),vs=[.ref x,.int room,.int first,.ref l]/\(∃ (dx:Addr) (axs:List (Int × Int)),H x=some (.ins C dx [])/\dO H l (axL axs)/\mG room first axs/\∀ (H':Hp) (D:Addr),(∀ H0,Ext H0 H->H0 x=none->Ext H0 H')->H D=none->H' x=some (.ins C dx (eK room first D))->dO H' D (axL (axs.map af))->Q .non H')
theorem jd(C:Addr)(x:Addr)(room:Int)(first:Int)(l:Addr)(H:Hp)(Q:VK)(E:XK):oU C [.ref x,.int room,.int first,.ref l] H Q E=(∃ (dx:Addr) (axs:List (Int × Int)),H x=some (.ins C dx [])/\dO H l (axL axs)/\mG room first axs/\∀ (H':Hp) (D:Addr),(∀ H0,Ext H0 H->H0 x=none->Ext H0 H')->H D=none->H' x=some (.ins C dx (eK room first D))->dO H' D (axL (axs.map af))->Q .non H'):=BI (f:=λ (x:Addr) (room:Int) (first:Int) (l:Addr)=>[.ref x,.int room,.int first,.ref l]) (λ _ _ _ _ _ _ _ _ h=>by cases h;exact⟨rfl,rfl,rfl,rfl⟩) x room first l
theorem xh(C:Addr){vs:List V}{H:Hp}{Q:VK}{E:XK}(h:oU C vs H Q E):vs.length=4:=BJ h λ _ _ _ _=>rfl
theorem eJ(T:Tx K mg t):bj P w K mg base CX0 6 t.a_View___init__ t.d_View___init__ ["self", "room", "first", "axes"] (oU t.a_View):=by
 have G_is_within:=%[gY|47];have G_is_whole:=%[cZ|47];have G_are_axes:=%[pR|47];have G_kept_axis:=%[nP|47];have G_View_least:=%[lW|47];have G_View_greatest:=%[hJ|47];refine T.F_View___init__.ok jB (λ vs H Q E h=>xh _ h) (λ c A o s H vs Q E hr h=>?_)
 ·obtain⟨x,room,first,l,rfl,dx,axs,hx,tl,vok,k⟩:=h;have c1:=T.cl_View;have c2:=T.na_View_first;have c3:=T.na_View_axes;have c4:=T.na_View_room;refine⟨_,%[%[(PW.pt %[%[%[%[is_within,%[%[1|0],%[%[0|2],%[(@er _ _ (.int 1000000000000000000) _ _ ∅ T.m_MOST_ROOM.choose_spec ⟨_,rfl⟩ ⋯)|1]|1]|1]|3],(by intros;rfl)|24]|25],%[%[%[%[is_whole,%[%[2|0]|1]|3],(by intros;rfl)|24]|25],%[%[%[%[are_axes,%[%[3|0]|1]|3],(by intros;rfl)|24]|25]|28]|22]|22]),%[(@ib _ _)|11],(@ah _)|16],%[(@lh _ _ _ _ _ _ _ _ %[0|0] %[1|0] rfl),%[(@lh _ _ _ _ _ _ _ _ %[0|0] %[2|0] rfl),%[(@lh _ _ _ _ _ _ _ _ %[0|0] %[(["axis", "self", "room", "first", "axes"]),(1),(aK (aa b9) ["self", "room", "first", "axes"] rfl rfl nofun),rfl,%[%[3|0]|23],(λ C s₀ H₀ ex pn=>%[(0),_,(show List.Nodup (["axis", "self", "room", "first", "axes"]:List Str) from by decide +kernel),rfl,(Or.inl rfl),%[0|7]|18]),(λ C s₀ H₀ ex pn=>(@aM _)),(λ C s₀ H₀ ex pn=>%[kept_axis,%[%[0|0]|1]|3]),(by intros;rfl)|27] rfl),%[%[(PW.pt %[%[eo,(@mM _ _ _ _ _ _ _ _ _ _ _ _ _ _ _ _ _ %[0|0] T.cl_View T.mt_View_least G_View_least (hr.mono ⋯) T.b_View_least .nil oK ∅),%[0|2],(ae _)|14],%[%[Fz,(@mM _ _ _ _ _ _ _ _ _ _ _ _ _ _ _ _ _ %[0|0] T.cl_View T.mt_View_greatest G_View_greatest (hr.mono ⋯) T.b_View_greatest .nil oK ∅),%[1|0],(ae _)|14]|28]|22]),%[(@ib _ _)|11],(@ah _)|16]|11]|9]|9]|9]|9],?_⟩;rw [show aE ["self", "room", "first", "axes"] [.ref x,.int room,.int first,.ref l]=[some (.ref x),some (.int room),some (.int first),some (.ref l)] from rfl];have r1:=vok.r1;have r2:=vok.r2;simp! only [↓jX,↓aR];rw [A5];refine⟨axs,tl,vok.ax,λ H1 e1=>?_⟩;have hx1:=e1.at hx;have tl1:=tl.ext e1;clear hx tl;ac_rfl;refine⟨(show (1:Nat) < 1000 by decide),?_⟩;obtain⟨ys,hl1,al1⟩:=tl1;have hlx:l ≠ x:=λ z=>by rw [z,hx1] at hl1;cases hl1
  have hx2:(upd H1 x (HO.ins t.a_View dx (ff "first" (V.int first) (ff "room" (V.int room) [])))) x=some (HO.ins t.a_View dx (ff "first" (V.int first) (ff "room" (V.int room) []))):=aj
  have hl2:(upd H1 x (HO.ins t.a_View dx (ff "first" (V.int first) (ff "room" (V.int room) [])))) l=some (.lst ys):=by rw [ai hlx];exact hl1
  have al2:Al (λ a y=>axP a y (upd H1 x (HO.ins t.a_View dx (ff "first" (V.int first) (ff "room" (V.int room) []))))) axs ys:=(mF al1).imp λ a y ⟨q,hy,hq⟩=>⟨q,hy,by rw [ai (λ z=>by rw [z,hx1] at hq;cases hq)];exact hq⟩;have b2:∀ H0,Ext H0 H->H0 x=none->Ext H0 (upd H1 x (HO.ins t.a_View dx (ff "first" (V.int first) (ff "room" (V.int room) [])))):=λ H0 q0 q1=>(q0.trans e1).put q1
  have b3:∀ b,b ≠ x->(upd H1 x (HO.ins t.a_View dx (ff "first" (V.int first) (ff "room" (V.int room) [])))) b=none->H b=none:=λ b hb q=>by rw [ai hb] at q;exact e1.free q
  generalize upd H1 x (HO.ins t.a_View dx (ff "first" (V.int first) (ff "room" (V.int room) [])))=H2 at hx2 hl2 al2 b2 b3;clear hl1 al1 hx1;ac_rfl;have wk:=fK (K:=K) (R:=axP) (λ _ _ _ _ h e=>h.ext e) hl2 al2;refine rJ axs (λ _=>true) axP (λ D a y H'=>∃ q,y=.ref q/\q ≠ D/\H' q=some (.tup [.int (af a).1,.int (af a).2])) wk.1 wk.2 (λ D _ y H1 H2 ⟨q,h1,h2,h3⟩ e=>⟨q,h1,h2,e.at h3⟩) (λ D _ y H1 o ⟨q,h1,h2,h3⟩=>⟨q,h1,h2,by rw [ai h2];exact h3⟩) (az (by have:=vok.ax.1;omega)) ?_ ?_
  ·intro D a y H' N1 N0 ha hD e ⟨ys0,hys0⟩ ⟨q,hy,hq⟩ k1 _;subst hy;have k1':=k1 rfl;clear k1 k;simp! only [↓bU,↓bc];rw [AX];exact⟨a,hq,λ r H'' hr' e' h'=>k1' _ H'' e' ⟨r,rfl,(λ z=>by rw [z,hys0] at hr';cases hr'),h'⟩⟩
  ·intro D zs H3 hD e3 hD3 al3;rw [iC] at al3;have hx3:=e3.at hx2;have hDx:D ≠ x:=λ z=>by rw [z,hx2] at hD;cases hD
   clear wk;ac_rfl;refine⟨(show (2:Nat) < 1000 by decide),?_⟩
   have tt:dO (upd H3 x (HO.ins t.a_View dx (eK room first D))) D (axL (axs.map af)):=by
    refine⟨zs,by rw [ai hDx];exact hD3,?_,λ i z y hz hy=>?_⟩
    ·rw [al3.1];unfold axL;rw [length_map,length_map]
    ·unfold axL at hz;rw [map_map,getElem?_map] at hz;obtain⟨a,ha,rfl⟩:=Option.map_eq_some_iff.mp hz;obtain⟨q,hq1,_,hq3⟩:=al3.2 i a y ha hy;exact⟨q,hq1,by rw [ai (λ z=>by rw [z,hx3] at hq3;cases hq3)];exact hq3⟩
   have b4:∀ H0,Ext H0 H->H0 x=none->Ext H0 (upd H3 x (HO.ins t.a_View dx (eK room first D))):=λ H0 q0 q1=>((b2 H0 q0 q1).trans e3).put q1;have hx4:(upd H3 x (HO.ins t.a_View dx (eK room first D))) x=some (HO.ins t.a_View dx (eK room first D)):=aj
   have f1:=vn room first D (m := "least") nofun
   have f2:=vn room first D (m := "greatest") nofun
   refine⟨f1,?_⟩
   show ku t.a_View [V.ref x] (upd H3 x (HO.ins t.a_View dx (eK room first D))) _ _
   generalize upd H3 x (HO.ins t.a_View dx (eK room first D))=H4 at tt b4 hx4
   have vo:aJ t.a_View H4 x room first (axs.map af):=⟨dx,D,hx4,tt⟩
   rw [xZ];refine⟨room,first,axs.map af,vo,vok.ax.kept,λ H5 e5=>?_⟩
   have hlo:¬ first+bP (axs.map af) < 0:=by have:=vok.lo;omega
   have hx5:=e5.at hx4;ac_rfl;rw [om];refine⟨room,first,axs.map af,vo.ext e5,vok.ax.kept,λ H6 e6=>?_⟩
   have hhi:¬ room<=first+bQ (axs.map af):=by have:=vok.hi;omega
   have k':=k H6 D (λ H0 q0 q1=>((b4 H0 q0 q1).trans e5).trans e6) (b3 D hDx hD) (e6.at hx5) ((tt.ext e5).ext e6);clear k;ac_rfl
def BR  : Sp:=λ vs H Q E=>∃ (a:Int) (b:Int),vs=[.int a,.int b]/\(Q (.int (Int.gcd a b:Int)) H)
theorem EH  (a:Int) (b:Int) (H:Hp) (Q:VK) (E:XK):BR  [.int a,.int b] H Q E=(Q (.int (Int.gcd a b:Int)) H):=qj (f:=λ (a:Int) (b:Int)=>[.int a,.int b]) (λ _ _ _ _ h=>by cases h;exact⟨rfl,rfl⟩) a b
theorem Ei  {vs:List V}{H:Hp}{Q:VK}{E:XK}(h:BR  vs H Q E):vs.length=2:=qm h λ _ _=>rfl
theorem sR(T:Tx K mg t):bj P w K mg base CX0 1 t.a_divisor t.d_divisor ["one", "other"] BR:=by
 refine T.F_divisor.ok dR (λ vs H Q E h=>Ei h) (λ c A o s H vs Q E hr h=>?_)
 ·obtain⟨a,b,rfl,k⟩:=h;refine⟨_,%[%[2,dR,%[abs,bC,%[%[0|0]|1]|6]|4],%[%[3,dR,%[abs,bC,%[%[1|0]|1]|6]|4],%[(@ia _ _ _ _ _ _ M7 %[(bN hr.units),%[3|0],%[0|2],(ae _)|14] %[%[4,dR,%[br,%[2|0],%[3|0]|10]|4],%[%[2,dR,%[3|0]|4],%[%[3,dR,%[4|0]|4]|11]|9]|9]),%[%[%[2|0]|13]|11]|9]|9]|9],?_⟩;rw [show aE ["one", "other", "found", "rest", "smaller"] [.int a,.int b]=[some (.int a),some (.int b),none,none,none] from rfl];ac_rfl;refine oQ (by repeat' first|exact B2|exact vd|exact mo_nI|apply lq|apply mo_unN|exact qA|exact Jr|exact qB|exact mo_rI|exact mo_rIsN|exact mo_rNotN|exact va|exact mo_qIx|exact vc|exact pG|apply kF|apply mo_tB|apply mo_not|apply mo_and|apply mo_or|apply B3|apply mo_un|apply pH|apply mo_qLst|apply B4) (λ m σ H'=>∃ (f r:Int) (sm:Option V),σ=[some (.int a),some (.int b),some (.int f),some (.int r),sm]/\H'=H/\m=r.toNat/\0<=f/\0<=r/\Int.gcd f r=Int.gcd a b) _ ⟨_,_,_,rfl,rfl,rfl,BF a,BF b,En a b⟩ ?_;rintro m _ _ ⟨f,r,sm,rfl,rfl,rfl,hf,hr',hg⟩;rename_i H
  by_cases hz:r=0
  ·subst hz;have e:f=(Int.gcd a b:Int):=by rw [←hg];exact(rA f hf).symm
   rw [←e] at k;clear e hg;ac_rfl
  ·have hp:0 < r:=by omega
   have e1:=rB f r hp hf;have e2:=NH f hp;have e3:=Nr f hz;have fin:∃ m',m' < r.toNat/\∃ (f' r':Int) (sm':Option V),([some (V.int a),some (V.int b),some (V.int r),some (V.int (f % r)),some (V.int (f % r))]:St)=[some (V.int a),some (V.int b),some (V.int f'),some (V.int r'),sm']/\m'=r'.toNat/\0<=f'/\0<=r'/\Int.gcd f' r'=Int.gcd a b:=⟨_,by omega,r,f % r,_,rfl,rfl,hr',e3,e1.trans hg⟩;clear k e1 hg;ac_rfl
abbrev sv  (p:Addr) (H:Hp) (Q:VK) (E:XK):Prop:=∃ ns:List Int,H p=some (.lst (ns.map V.int))/\Q (.int (jD ns)) H
def uZ  : Sp:=λ vs H Q E=>∃ (p:Addr),vs=[.ref p]/\(sv  p H Q E)
theorem A3  (p:Addr) (H:Hp) (Q:VK) (E:XK):uZ  [.ref p] H Q E=(sv  p H Q E):=qk (f:=λ (p:Addr)=>[.ref p]) (λ _ _ h=>by cases h;exact rfl) p
theorem Ae  {vs:List V}{H:Hp}{Q:VK}{E:XK}(h:uZ  vs H Q E):vs.length=1:=oF h λ _=>rfl
theorem lQ(T:Tx K mg t):bj P w K mg base CX0 2 t.a_divisor_of t.d_divisor_of ["numbers"] uZ:=by
 have G_divisor:=%[sR|47];refine T.F_divisor_of.ok dt (λ vs H Q E h=>Ae h) (λ c A o s H vs Q E hr h=>?_)
 ·obtain⟨p,rfl,ns,hp,k⟩:=h;refine⟨_,%[%[1,dt,%[0|2]|4],%[%[M7,rfl,%[%[0|0]|23],%[2,dt|5],%[%[1,dt,%[divisor,%[%[1|0],%[%[2|0]|1]|1]|3]|4]|11],(by intros;rfl)|30],%[%[%[1|0]|13]|11]|9]|9],?_⟩;rw [show aE ["numbers", "found", "number"] [.ref p]=[some (.ref p),none,none] from rfl];clear G_divisor;ac_rfl;refine dB (xs:=ns.map V.int) (λ i σ H'=>∃ v:Option V,σ=[some (.ref p),some (.int (jD (ns.take i))),v]/\H'=H) ⟨none,rfl,rfl⟩ (λ i σ H' _ ⟨_,_,e⟩=>by rw [e];exact hp) ?_ ?_
  ·rintro i y _ _ hi ⟨v,rfl,rfl⟩;rename_i H;rw [MZ] at hi;obtain⟨z,hz,rfl⟩:=M4.mp hi;have e1:=m4 ns i z hz;clear hz hi k;simp! only [↓aN];rw [EH];ac_rfl;exact⟨_,rfl⟩
  ·rintro _ _ ⟨v,rfl,rfl⟩;rename_i H;have e2:jD (ns.take (ns.map V.int).length)=jD ns:=by rw [MK,N2]
   rw [e2];ac_rfl
theorem Bc{zs:List Tm3}(h:cK zs){z:Tm3}(hz:z∈zs)(b:Int):iE z.1 b:=.inl (by have:=(h.all z hz).1;omega)
abbrev rV  (p:Addr) (q:Addr) (H:Hp) (Q:VK) (E:XK):Prop:=∃ (zs:List Tm3) (cs:List (Int × Int)),gA H p zs/\cI H q cs/\cK zs/\dJ zs cs/\∀ H',Ext H H'->Q (.int (bJ zs cs)) H'
def uP  : Sp:=λ vs H Q E=>∃ (p:Addr) (q:Addr),vs=[.ref p,.ref q]/\(rV  p q H Q E)
theorem lJ  (p:Addr) (q:Addr) (H:Hp) (Q:VK) (E:XK):uP  [.ref p,.ref q] H Q E=(rV  p q H Q E):=qj (f:=λ (p:Addr) (q:Addr)=>[.ref p,.ref q]) (λ _ _ _ _ h=>by cases h;exact⟨rfl,rfl⟩) p q
theorem zU  {vs:List V}{H:Hp}{Q:VK}{E:XK}(h:uP  vs H Q E):vs.length=2:=qm h λ _ _=>rfl
theorem fb(T:Tx K mg t):bj P w K mg base CX0 1 t.a_least_sum t.d_least_sum ["terms", "case"] uP:=by
 refine T.F_least_sum.ok qe (λ vs H Q E h=>zU h) (λ c A o s H vs Q E hr h=>?_)
 ·obtain⟨p,q,rfl,zs,cs,⟨ys,hp,al⟩,⟨xs,hq,bl⟩,ht,hc,k⟩:=h;refine⟨_,%[%[%[sum,(bZ rfl),%[%[(["term", "bounds", "terms", "case"]),(2),(aK (aa et) ["terms", "case"] rfl rfl nofun),rfl,%[∅,T.z_zip,%[%[0|0],%[%[1|0]|1]|1],∅,∅|44],(λ C s₀ H₀ ex pn=>(%[(2),rfl,%[%[(0),_,(show List.Nodup (["term", "bounds", "terms", "case"]:List Str) from by decide +kernel),rfl,(Or.inl rfl),%[0|7]|18],%[%[(1),_,(show List.Nodup (["term", "bounds", "terms", "case"]:List Str) from by decide +kernel),rfl,(Or.inl rfl),%[0|7]|18],(@aw _),∅|15],∅|15],∅,∅|20].mono λ _ _ _ _ h=>aX h)),(λ C s₀ H₀ ex pn=>(@aM _)),(λ C s₀ H₀ ex pn=>%[bO,%[aH,%[0|0],%[0|2],(λ _ _=>rfl)|12],%[aH,%[1|0],%[0|2],(λ _ _=>rfl)|12]|10]),(by intros;rfl)|27]|1]|6]|13]|11],?_⟩;rw [show aE ["terms", "case"] [.ref p,.ref q]=[some (.ref p),some (.ref q)] from rfl];ac_rfl;have wk:=oP (R1:=trP) (R2:=axP) (λ _ _ _ _ h e=>h.ext e) (λ _ _ _ _ h e=>h.ext e) hp hq al bl;refine bH (zs.zip cs) (λ _=>true) (λ z=>.int (z.1.1 * z.2.1)) (ES trP axP) wk.1 wk.2 (az (by have:=ht.len;rw [NJ];omega)) ?_ ?_
  ·intro D z y H' N1 N0 hz hD e ⟨u,q1,q2,hu,hu2,⟨r1,h1,h1'⟩,⟨r2,h2,h2'⟩⟩ k1 _;subst hu h1 h2;have k1':N1 (.int (z.1.1 * z.2.1)) H':=k1 rfl H' (Ext.refl _);have hcm:=Bc ht (ON hz).1 z.2.1;clear k1 k;simp! only [↓cC,↓bc]
  ·intro D H' hD e hD';rw [iC,show ((zs.zip cs).map λ z=>V.int (z.1.1 * z.2.1))=((zs.zip cs).map λ z=>z.1.1 * z.2.1).map V.int by rw [NO];rfl] at hD';have k2:Q (.int ((zs.zip cs).map λ z=>z.1.1 * z.2.1).sum) H':=k H' e;clear k wk;ac_rfl
abbrev su  (p:Addr) (q:Addr) (H:Hp) (Q:VK) (E:XK):Prop:=∃ (zs:List Tm3) (cs:List (Int × Int)),gA H p zs/\cI H q cs/\cK zs/\dJ zs cs/\∀ H',Ext H H'->Q (.int (cE zs cs)) H'
def uY  : Sp:=λ vs H Q E=>∃ (p:Addr) (q:Addr),vs=[.ref p,.ref q]/\(su  p q H Q E)
theorem lL  (p:Addr) (q:Addr) (H:Hp) (Q:VK) (E:XK):uY  [.ref p,.ref q] H Q E=(su  p q H Q E):=qj (f:=λ (p:Addr) (q:Addr)=>[.ref p,.ref q]) (λ _ _ _ _ h=>by cases h;exact⟨rfl,rfl⟩) p q
theorem Ad  {vs:List V}{H:Hp}{Q:VK}{E:XK}(h:uY  vs H Q E):vs.length=2:=qm h λ _ _=>rfl
theorem dc(T:Tx K mg t):bj P w K mg base CX0 1 t.a_greatest_sum t.d_greatest_sum ["terms", "case"] uY:=by
 refine T.F_greatest_sum.ok jI (λ vs H Q E h=>Ad h) (λ c A o s H vs Q E hr h=>?_)
 ·obtain⟨p,q,rfl,zs,cs,⟨ys,hp,al⟩,⟨xs,hq,bl⟩,ht,hc,k⟩:=h;refine⟨_,%[%[%[sum,(bZ rfl),%[%[(["term", "bounds", "terms", "case"]),(2),(aK (aa cp) ["terms", "case"] rfl rfl nofun),rfl,%[∅,T.z_zip,%[%[0|0],%[%[1|0]|1]|1],∅,∅|44],(λ C s₀ H₀ ex pn=>(%[(2),rfl,%[%[(0),_,(show List.Nodup (["term", "bounds", "terms", "case"]:List Str) from by decide +kernel),rfl,(Or.inl rfl),%[0|7]|18],%[%[(1),_,(show List.Nodup (["term", "bounds", "terms", "case"]:List Str) from by decide +kernel),rfl,(Or.inl rfl),%[0|7]|18],(@aw _),∅|15],∅|15],∅,∅|20].mono λ _ _ _ _ h=>aX h)),(λ C s₀ H₀ ex pn=>(@aM _)),(λ C s₀ H₀ ex pn=>%[bO,%[aH,%[0|0],%[0|2],(λ _ _=>rfl)|12],%[aH,%[1|0],%[0|2],(λ _ _=>rfl)|12]|10]),(by intros;rfl)|27]|1]|6]|13]|11],?_⟩;rw [show aE ["terms", "case"] [.ref p,.ref q]=[some (.ref p),some (.ref q)] from rfl];ac_rfl;have wk:=oP (R1:=trP) (R2:=axP) (λ _ _ _ _ h e=>h.ext e) (λ _ _ _ _ h e=>h.ext e) hp hq al bl;refine bH (zs.zip cs) (λ _=>true) (λ z=>.int (z.1.1 * z.2.2)) (ES trP axP) wk.1 wk.2 (az (by have:=ht.len;rw [NJ];omega)) ?_ ?_
  ·intro D z y H' N1 N0 hz hD e ⟨u,q1,q2,hu,hu2,⟨r1,h1,h1'⟩,⟨r2,h2,h2'⟩⟩ k1 _;subst hu h1 h2;have k1':N1 (.int (z.1.1 * z.2.2)) H':=k1 rfl H' (Ext.refl _);have hcm:=Bc ht (ON hz).1 z.2.2;clear k1 k;simp! only [↓cC,↓bc]
  ·intro D H' hD e hD';rw [iC,show ((zs.zip cs).map λ z=>V.int (z.1.1 * z.2.2))=((zs.zip cs).map λ z=>z.1.1 * z.2.2).map V.int by rw [NO];rfl] at hD';have k2:Q (.int ((zs.zip cs).map λ z=>z.1.1 * z.2.2).sum) H':=k H' e;clear k wk;ac_rfl
abbrev rS  (p:Addr) (q:Addr) (H:Hp) (Q:VK) (E:XK):Prop:=∃ (zs:List Tm3) (cs:List (Int × Int)),gA H p zs/\cI H q cs/\cK zs/\dJ zs cs/\∀ H',Ext H H'->Q (.int (jD (dM zs cs))) H'
def uN  : Sp:=λ vs H Q E=>∃ (p:Addr) (q:Addr),vs=[.ref p,.ref q]/\(rS  p q H Q E)
theorem AV  (p:Addr) (q:Addr) (H:Hp) (Q:VK) (E:XK):uN  [.ref p,.ref q] H Q E=(rS  p q H Q E):=qj (f:=λ (p:Addr) (q:Addr)=>[.ref p,.ref q]) (λ _ _ _ _ h=>by cases h;exact⟨rfl,rfl⟩) p q
theorem zS  {vs:List V}{H:Hp}{Q:VK}{E:XK}(h:uN  vs H Q E):vs.length=2:=qm h λ _ _=>rfl
theorem sO(T:Tx K mg t):bj P w K mg base CX0 3 t.a_rest_of t.d_rest_of ["terms", "case"] uN:=by
 have G_divisor_of:=%[lQ|47];refine T.F_rest_of.ok yi (λ vs H Q E h=>zS h) (λ c A o s H vs Q E hr h=>?_)
 ·obtain⟨p,q,rfl,zs,cs,⟨ys,hp,al⟩,⟨xs,hq,bl⟩,ht,hc,k⟩:=h;refine⟨_,%[%[%[divisor_of,%[%[(["term", "bounds", "terms", "case"]),(2),(aK (aa gn) ["terms", "case"] rfl rfl nofun),rfl,%[∅,T.z_zip,%[%[0|0],%[%[1|0]|1]|1],∅,∅|44],(λ C s₀ H₀ ex pn=>(%[(2),rfl,%[%[(0),_,(show List.Nodup (["term", "bounds", "terms", "case"]:List Str) from by decide +kernel),rfl,(Or.inl rfl),%[0|7]|18],%[%[(1),_,(show List.Nodup (["term", "bounds", "terms", "case"]:List Str) from by decide +kernel),rfl,(Or.inl rfl),%[0|7]|18],(@aw _),∅|15],∅|15],∅,∅|20].mono λ _ _ _ _ h=>aX h)),(λ C s₀ H₀ ex pn=>(@vD _ _ _ %[eo,%[aH,%[1|0],%[0|2],(λ _ _=>rfl)|12],%[aH,%[1|0],%[0|2],(λ _ _=>rfl)|12],(ae _)|14])),(λ C s₀ H₀ ex pn=>%[aH,%[0|0],%[0|2],(λ _ _=>rfl)|12]),(by intros;rfl)|27]|1]|3]|13]|11],?_⟩;rw [show aE ["terms", "case"] [.ref p,.ref q]=[some (.ref p),some (.ref q)] from rfl];clear G_divisor_of;ac_rfl;have wk:=oP (R1:=trP) (R2:=axP) (λ _ _ _ _ h e=>h.ext e) (λ _ _ _ _ h e=>h.ext e) hp hq al bl;refine bH (zs.zip cs) (λ z=>decide (z.2.1 < z.2.2)) (λ z=>.int z.1.1) (ES trP axP) wk.1 wk.2 (az (by have:=ht.len;rw [NJ];omega)) ?_ ?_
  ·intro D z y H' N1 N0 hz hD e ⟨u,q1,q2,hu,hu2,⟨r1,h1,h1'⟩,⟨r2,h2,h2'⟩⟩ k1 k0;subst hu h1 h2
   by_cases hlt:z.2.1 < z.2.2
   ·have k1':N1 (.int z.1.1) H':=k1 (MY hlt) H' (Ext.refl _);clear k1 k0 k;simp! only [↓cC,↓bc]
   ·have k0':N0 H':=k0 (M3 hlt) H' (Ext.refl _);clear k1 k0 k;simp! only [↓cC,↓bc]
  ·intro D H' hD e hD';rw [show (((zs.zip cs).filter λ z=>decide (z.2.1 < z.2.2)).map λ z=>V.int z.1.1)=(dM zs cs).map V.int by unfold dM;rw [map_map];rfl] at hD';have k2:=k H' e;clear k wk;ac_rfl;rw [A3];exact⟨_,hD',k2⟩
def yq(H:Hp)(s:List V)(v:V):Prop:=∃ r,v=.ref r/\H r=some (.tup s)
theorem yq.ext{H H':Hp}{s:List V}{v:V}(h:yq H s v)(e:Ext H H'):yq H' s v:=by
 obtain⟨r,h1,h2⟩:=h;exact⟨r,h1,e.at h2⟩
def EV(g l gr r:Int):Option (List V):=if g < l then some [.str "low"] else if gr < g then some [.str "high"] else if 1 < r/\(g - l) % r ≠ 0 then some [.str "rest",.int r] else none
def oB(zs:List Tm3)(cs:List (Int × Int))(g:Int):Option (List V):=EV g (bJ zs cs) (cE zs cs) (jD (dM zs cs))
def LP(H:Hp):Option (List V)->V->Prop
 | none,v=>v=.non
 | some s,v=>yq H s v
theorem tX{g l gr r:Int}:(EV g l gr r).isSome=cG g l gr r:=by
 unfold EV cG
 by_cases h1:g < l
 ·rw [MI h1,MY h1];rfl
 rw [MH h1,M3 h1]
 by_cases h2:gr < g
 ·rw [MI h2,MY h2];rfl
 rw [MH h2,M3 h2]
 by_cases h3:1 < r
 ·have:=Nr (g - l) (show r ≠ 0 by omega)
  by_cases h4:(g - l) % r=0
  ·rw [MH (λ h=>h.2 h4),h4,M3 (Int.lt_irrefl 0),Bool.and_false];rfl
  ·rw [MI ⟨h3,h4⟩,MY h3,MY (show 0 < (g - l) % r by omega)];rfl
 ·rw [MH (λ h=>h3 h.1),M3 h3];rfl
theorem lC{zs:List Tm3}{cs:List (Int × Int)}{g:Int}{o:Option (List V)}(h:oB zs cs g=o):cz zs cs g=o.isSome:=by
 rw [←h];exact tX.symm
abbrev nL  (p:Addr) (g:Int) (q:Addr) (H:Hp) (Q:VK) (E:XK):Prop:=∃ (zs:List Tm3) (cs:List (Int × Int)),gA H p zs/\cI H q cs/\cK zs/\dJ zs cs/\∀ v H',Ext H H'->LP H' (oB zs cs g) v->Q v H'
def pq  : Sp:=λ vs H Q E=>∃ (p:Addr) (g:Int) (q:Addr),vs=[.ref p,.int g,.ref q]/\(nL  p g q H Q E)
theorem yg  (p:Addr) (g:Int) (q:Addr) (H:Hp) (Q:VK) (E:XK):pq  [.ref p,.int g,.ref q] H Q E=(nL  p g q H Q E):=qi (f:=λ (p:Addr) (g:Int) (q:Addr)=>[.ref p,.int g,.ref q]) (λ _ _ _ _ _ _ h=>by cases h;exact⟨rfl,rfl,rfl⟩) p g q
theorem xw  {vs:List V}{H:Hp}{Q:VK}{E:XK}(h:pq  vs H Q E):vs.length=3:=ql h λ _ _ _=>rfl
theorem mS(T:Tx K mg t):bj P w K mg base CX0 4 t.a_end_of t.d_end_of ["terms", "goal", "case"] pq:=by
 have G_least_sum:=%[fb|47];have G_greatest_sum:=%[dc|47];have G_rest_of:=%[sO|47];refine T.F_end_of.ok lN (λ vs H Q E h=>xw h) (λ c A o s H vs Q E hr h=>?_)
 ·obtain⟨p,g,q,rfl,zs,cs,hp,hq,ht,hc,k⟩:=h;refine⟨_,%[%[3,lN,%[least_sum,%[%[0|0],%[%[2|0]|1]|1]|3]|4],%[%[%[dz,%[3|0],%[1|0],(ae _)|14],%[%[%[%[(@aW _ _ _ _)|1]|17]|13]|11],(@ah _)|16],%[%[%[eo,%[greatest_sum,%[%[0|0],%[%[2|0]|1]|1]|3],%[1|0],(ae _)|14],%[%[%[%[(@aW _ _ _ _)|1]|17]|13]|11],(@ah _)|16],%[%[4,lN,%[rest_of,%[%[0|0],%[%[2|0]|1]|1]|3]|4],%[%[(PW.pt %[%[dz,%[4|0],%[0|2],(ae _)|14],%[%[(bN hr.units),%[br,%[aB,%[1|0],%[3|0]|10],%[4|0]|10],%[0|2],(ae _)|14]|34]|32]),%[%[%[%[(@aW _ _ _ _),%[%[4|0]|1]|1]|17]|13]|11],(@ah _)|16],%[%[(@cR _ _ _)|13]|11]|9]|9]|9]|9]|9],?_⟩;rw [show aE ["terms", "goal", "case", "least", "rest"] [.ref p,.int g,.ref q]=[some (.ref p),some (.int g),some (.ref q),none,none] from rfl];clear G_least_sum G_greatest_sum G_rest_of;unfold oB at k;have en:∀ o,EV g (bJ zs cs) (cE zs cs) (jD (dM zs cs))=o->∀ v H',Ext H H'->LP H' o v->Q v H':=λ o ho v H' e h=>k v H' e (by rw [ho];exact h);unfold EV at en;exists en;clear k;ac_rfl;rw [lJ];refine⟨zs,cs,hp,hq,ht,hc,λ H1 e1=>?_⟩
  by_cases h1:g < bJ zs cs
  ·have k:=en () _ (MI h1);exists k;clear en;ac_rfl;intro r H2 hr2 e2 h2;exact k () _ H2 (e1.trans e2) ⟨r,rfl,h2⟩
  ac_rfl;rw [lL];refine⟨zs,cs,cu hp e1,ay hq e1,ht,hc,λ H2 e2=>?_⟩
  by_cases h2:cE zs cs < g
  ·have k:=en () _ (by rw [MH h1,MI h2]);exists k;clear en;ac_rfl;intro r H3 hr3 e3 h3;exact k () _ H3 (e1.trans (e2.trans e3)) ⟨r,rfl,h3⟩
  ac_rfl;rw [AV];refine⟨zs,cs,cu hp (e1.trans e2),ay hq (e1.trans e2),ht,hc,λ H3 e3=>?_⟩;have hgn:=pK (dM zs cs);generalize jD (dM zs cs)=r at en hgn
  by_cases h3:1 < r
  ·have hr0:0 < r:=by omega
   by_cases h4:(g - bJ zs cs) % r=0
   ·have k2:=en () none (by rw [MH h1,MH h2,MH (λ h=>h.2 h4)]) .non H3 (e1.trans (e2.trans e3)) rfl;clear en;ac_rfl
   ·have k:=en () _ (by rw [MH h1,MH h2,MI ⟨h3,h4⟩]);exists k;clear en;ac_rfl;intro r' H4 hr4 e4 h4';exact k () _ H4 (e1.trans (e2.trans (e3.trans e4))) ⟨r',rfl,h4'⟩
  ·have k2:=en () none (by rw [MH h1,MH h2,MH (λ h=>h3 h.1)]) .non H3 (e1.trans (e2.trans e3)) rfl;clear en;ac_rfl
abbrev Bx:=List (Int × Int)
def InB:Bx->List Int->Prop
 | [],[]=>True
 | b::cs,x::xs=>(b.1<=x/\x<=b.2)/\InB cs xs
 | _,_=>False
def yr:List Tm3->List Int->Int
 | z::zs,x::xs=>z.1 * x+yr zs xs
 | _,_=>0
def fH:Bx->Int
 | []=>1
 | b::cs=>(b.2 - b.1+1) * fH cs
def JT(cs:Bx):Prop:=∀ b∈cs,b.1<=b.2
theorem oR:∀ {cs:Bx},JT cs->1<=fH cs
 | [],_=>M5 _
 | b::cs,h=>by
  have ih:=oR (cs:=cs) λ c hc=>h c (MD _ hc);have hb:=h b MF
  show 1<=(b.2 - b.1+1) * fH cs
  have:=Pj (show (1:Int)<=b.2 - b.1+1 by omega) ih ⋯ %[0|8];omega
theorem bX(z:Tm3)(b:Int × Int)(zs:List Tm3)(cs:Bx):bJ (z::zs) (b::cs)=z.1 * b.1+bJ zs cs/\cE (z::zs) (b::cs)=z.1 * b.2+cE zs cs:=by
 unfold bJ cE;rw [List.zip_cons_cons,map_cons,map_cons,sum_cons,sum_cons];exact⟨rfl,rfl⟩
theorem rC:∀ (ns:List Int) (a:Int),(ns.foldl (λ f n=>(Int.gcd f n:Int)) a ∣ a)/\∀ n∈ns,ns.foldl (λ f n=>(Int.gcd f n:Int)) a ∣ n
 | [],a=>⟨Int.dvd_refl _,λ _ h=>by cases h⟩
 | n::ns,a=>by
  obtain⟨h1,h2⟩:=rC ns (Int.gcd a n:Int);refine⟨Int.dvd_trans h1 (Int.gcd_dvd_left ..),λ m hm=>?_⟩
  rcases MU.mp hm with rfl|hm
  ·exact Int.dvd_trans h1 (Int.gcd_dvd_right ..)
  ·exact h2 m hm
theorem InB.len:∀ {cs:Bx}{xs:List Int},InB cs xs->xs.length=cs.length
 | [],[],_=>rfl
 | [],_::_,h=>h.elim
 | _::_,[],h=>h.elim
 | _::_,_::_,h=>NF (· + 1) (InB.len h.2)
def upC(cs:Bx)(k:Nat)(at':Int):Bx:=cs.set k (at'+1,(cs.getD k default).2)
def loC(cs:Bx)(k:Nat)(at':Int):Bx:=cs.set k ((cs.getD k default).1,at')
theorem rf:∀ {cs:Bx}{k:Nat}{a:Int},k < cs.length->fH (upC cs k a)+fH (loC cs k a)=fH cs
 | [],_,_,h=>by simp at h
 | b::cs,0,a,_=>by
  show (b.2 - (a+1)+1) * fH cs+(a - b.1+1) * fH cs=(b.2 - b.1+1) * fH cs
  rw [←Int.add_mul];congr 1;omega
 | b::cs,k+1,a,h=>by
  have ih:=rf (cs:=cs) (k:=k) (a:=a) (by simpa using h)
  show (b.2 - b.1+1) * fH (upC cs k a)+(b.2 - b.1+1) * fH (loC cs k a)=(b.2 - b.1+1) * fH cs
  rw [←Of,ih]
theorem vQ:∀ {cs ds:Bx}{xs:List Int},InB cs xs->ds.length=cs.length->(∀ i:Nat,i < cs.length->(ds.getD i default).1<=(cs.getD i default).1/\(cs.getD i default).2<=(ds.getD i default).2)->InB ds xs
 | [],[],[],_,_,_=>trivial
 | [],_::_,_,_,h,_=>by simp at h
 | _::_,[],_,_,h,_=>by simp at h
 | [],_,_::_,h,_,_=>h.elim
 | _::_,_,[],h,_,_=>h.elim
 | b::cs,d::ds,x::xs,hx,hl,h=>by
  have h0:=h 0 (by simp);have h0':d.1<=b.1/\b.2<=d.2:=h0;refine⟨by have:=hx.1;omega,vQ hx.2 (by simpa using hl) λ i hi=>?_⟩;exact h (i+1) (by simpa using hi)
theorem dJ.at{zs:List Tm3}{cs:Bx}(h:dJ zs cs){i:Nat}(hi:i < zs.length):(zs.getD i default).2.1<=(cs.getD i default).1/\(cs.getD i default).1<=(cs.getD i default).2/\(cs.getD i default).2<=(zs.getD i default).2.2:=by
 have hc:i < cs.length:=by rw [h.len];exact hi
 have hm:(zs[i],cs[i])∈zs.zip cs:=by
  have:(zs.zip cs)[i]? = some (zs[i],cs[i]):=by rw [Nw];exact⟨Mx hi,Mx hc⟩
  exact N3 this
 have:=h.all _ hm;rw [MP,MP,Mx hi,Mx hc];exact this
theorem dJ.of{zs:List Tm3}{cs:Bx}(hl:cs.length=zs.length)(h:∀ i:Nat,i < zs.length->(zs.getD i default).2.1<=(cs.getD i default).1/\(cs.getD i default).1<=(cs.getD i default).2/\(cs.getD i default).2<=(zs.getD i default).2.2):dJ zs cs:=by
 refine⟨hl,λ p hp=>?_⟩;obtain⟨i,hi⟩:=Ox.mp hp;obtain⟨h1,h2⟩:=Nw.mp hi;have hz:=(MB.mp h1).1;have:=h i hz;rw [MP,MP,h1,h2] at this;exact this
theorem dJ.bx{zs:List Tm3}{cs:Bx}(h:dJ zs cs):JT cs:=λ b hb=>by
 obtain⟨i,hi⟩:=Ox.mp hb;have hl:=(MB.mp hi).1;have:=(h.at (i:=i) (by rw [←h.len];exact hl)).2.1;rw [MP,hi] at this;exact this
theorem m3{cs:Bx}{k i:Nat}{b:Int × Int}(hk:k < cs.length):(cs.set k b).getD i default=if i=k then b else cs.getD i default:=by
 rw [MP,MP,List.getElem?_set]
 by_cases h:i=k
 ·subst h;rw [MI rfl,MI hk,MI rfl];rfl
 ·rw [MH (λ e=>h e.symm),MH h]
theorem dJ.part{zs:List Tm3}{cs:Bx}{k:Nat}{a:Int}(h:dJ zs cs)(hk:k < zs.length)(h1:(cs.getD k default).1<=a)(h2:a < (cs.getD k default).2):dJ zs (upC cs k a)/\dJ zs (loC cs k a):=by
 have hc:k < cs.length:=by rw [h.len];exact hk
 have hk':=h.at hk;refine⟨dJ.of (by unfold upC;rw [length_set];exact h.len) λ i hi=>?_,dJ.of (by unfold loC;rw [length_set];exact h.len) λ i hi=>?_⟩
 ·unfold upC;rw [m3 hc]
  by_cases e:i=k
  ·subst e;rw [MI rfl];show _<=a+1/\a+1<=(cs.getD i default).2/\_;omega
  ·rw [MH e];exact h.at hi
 ·unfold loC;rw [m3 hc]
  by_cases e:i=k
  ·subst e;rw [MI rfl];show _<=(cs.getD i default).1/\(cs.getD i default).1<=a/\a<=_;omega
  ·rw [MH e];exact h.at hi
theorem qM:∀ {zs:List Tm3}{cs:Bx},cs.length=zs.length->yr zs (cs.map λ b=>b.1)=bJ zs cs/\yr zs (cs.map λ b=>b.2)=cE zs cs
 | [],[],_=>⟨rfl,rfl⟩
 | [],_::_,h=>by simp at h
 | _::_,[],h=>by simp at h
 | z::zs,b::cs,h=>by
  obtain⟨i1,i2⟩:=qM (zs:=zs) (cs:=cs) (by simpa using h);obtain⟨s1,s2⟩:=bX z b zs cs;rw [s1,s2,←i1,←i2];exact⟨rfl,rfl⟩
theorem vR:∀ {cs:Bx},JT cs->InB cs (cs.map λ b=>b.1)/\InB cs (cs.map λ b=>b.2)
 | [],_=>⟨trivial,trivial⟩
 | b::cs,h=>by
  have ih:=vR (cs:=cs) λ c hc=>h c (MD _ hc);have hb:=h b MF;exact⟨⟨⟨M5 _,hb⟩,ih.1⟩,⟨hb,M5 _⟩,ih.2⟩
def oz(zs:List Tm3)(g:Int)(cs:Bx):Option (List Int):=if bJ zs cs=g then some (cs.map λ b=>b.1) else if cE zs cs=g then some (cs.map λ b=>b.2) else none
theorem GG{zs:List Tm3}{g:Int}{cs:Bx}{xs:List Int}(h:dJ zs cs)(hx:oz zs g cs=some xs):InB cs xs/\yr zs xs=g:=by
 obtain⟨v1,v2⟩:=qM h.len;obtain⟨i1,i2⟩:=vR h.bx;unfold oz at hx;split at hx
 ·rename_i e;cases hx;exact⟨i1,v1.trans e⟩
 ·split at hx
  ·rename_i e;cases hx;exact⟨i2,v2.trans e⟩
  ·cases hx
def iy(t:Int)(b:Int × Int)(al bg:Int):Int × Int:=(if b.1 < b.2 - bg / t then b.2 - bg / t else b.1,if b.1+al / t < b.2 then b.1+al / t else b.2)
def dg(zs:List Tm3)(cs:Bx)(al bg:Int):Nat->Option (Nat × Int × Int)
 | 0=>none
 | i+1=>if (cs.getD i default).1 < (cs.getD i default).2 then (match dg zs cs al bg i with
   | none=>some (i,iy (zs.getD i default).1 (cs.getD i default) al bg)
   | some q=>if (iy (zs.getD i default).1 (cs.getD i default) al bg).2 - (iy (zs.getD i default).1 (cs.getD i default) al bg).1 < q.2.2 - q.2.1 then some (i,iy (zs.getD i default).1 (cs.getD i default) al bg) else some q) else dg zs cs al bg i
theorem gF{zs:List Tm3}{cs:Bx}{al bg:Int}:∀ {i:Nat}{q:Nat × Int × Int},dg zs cs al bg i=some q->q.1 < i/\(cs.getD q.1 default).1 < (cs.getD q.1 default).2/\q.2=iy (zs.getD q.1 default).1 (cs.getD q.1 default) al bg
 | 0,q,h=>by cases h
 | i+1,q,h=>by
  have ih:=λ q h=>gF (zs:=zs) (cs:=cs) (al:=al) (bg:=bg) (i:=i) (q:=q) h;unfold dg at h;split at h
  ·rename_i hlt;split at h
   ·cases h;exact⟨Oa _,hlt,rfl⟩
   ·rename_i q' hq;split at h
    ·cases h;exact⟨Oa _,hlt,rfl⟩
    ·cases h;have:=ih _ hq;exact⟨by omega,this.2⟩
  ·have:=ih _ h;exact⟨by omega,this.2⟩
theorem jg{zs:List Tm3}{cs:Bx}{al bg:Int}:∀ {i:Nat},(∃ k,k < i/\(cs.getD k default).1 < (cs.getD k default).2)->∃ q,dg zs cs al bg i=some q
 | 0,⟨k,h,_⟩=>absurd h (Nat.not_lt_zero _)
 | i+1,⟨k,hk,hlt⟩=>by
  unfold dg
  by_cases h:(cs.getD i default).1 < (cs.getD i default).2
  ·rw [MI h]
   cases dg zs cs al bg i with
   | none=>exact⟨_,rfl⟩
   | some q=>
    dsimp only;split
    ·exact⟨_,rfl⟩
    ·exact⟨_,rfl⟩
  ·rw [MH h];have hki:k ≠ i:=λ e=>h (by rw [←e];exact hlt);exact jg ⟨k,by omega,hlt⟩
def bT(cs:Bx)(q:Nat × Int × Int):Int:=if q.2.2 < (cs.getD q.1 default).2 then q.2.2 else if (cs.getD q.1 default).1 < q.2.1 then q.2.1 - 1 else (cs.getD q.1 default).1
theorem CU{zs:List Tm3}{cs:Bx}{al bg:Int}{i:Nat}{q:Nat × Int × Int}(hz:∀ j,j < i->(1:Int)<=(zs.getD j default).1)(ha:0<=al)(hb:0<=bg)(h:dg zs cs al bg i=some q):(cs.getD q.1 default).1<=bT cs q/\bT cs q < (cs.getD q.1 default).2:=by
 obtain⟨h1,h2,h3⟩:=gF h;have ht:=hz q.1 h1;have d1:=NT ha (show 0<=(zs.getD q.1 default).1 by omega);have d2:=NT hb (show 0<=(zs.getD q.1 default).1 by omega);have e1:q.2.1=(iy (zs.getD q.1 default).1 (cs.getD q.1 default) al bg).1:=by rw [←h3]
 have e2:q.2.2=(iy (zs.getD q.1 default).1 (cs.getD q.1 default) al bg).2:=by rw [←h3]
 unfold iy at e1 e2;have e1':q.2.1=if (cs.getD q.1 default).1 < (cs.getD q.1 default).2 - bg / (zs.getD q.1 default).1 then (cs.getD q.1 default).2 - bg / (zs.getD q.1 default).1 else (cs.getD q.1 default).1:=e1
 have e2':q.2.2=if (cs.getD q.1 default).1+al / (zs.getD q.1 default).1 < (cs.getD q.1 default).2 then (cs.getD q.1 default).1+al / (zs.getD q.1 default).1 else (cs.getD q.1 default).2:=e2
 unfold bT;rw [e1',e2']
 repeat' split
 all_goals omega
theorem vt:∀ {zs:List Tm3}{cs:Bx},cs.length=zs.length->(∀ i:Nat,i < zs.length->(cs.getD i default).1=(cs.getD i default).2)->bJ zs cs=cE zs cs
 | [],[],_,_=>rfl
 | [],_::_,h,_=>by simp at h
 | _::_,[],h,_=>by simp at h
 | z::zs,b::cs,h,he=>by
  have ih:=vt (zs:=zs) (cs:=cs) (by simpa using h) λ i hi=>he (i+1) (by simpa using hi);obtain⟨s1,s2⟩:=bX z b zs cs;have h0:b.1=b.2:=he 0 (by simp);rw [s1,s2,ih,h0]
theorem ja{zs:List Tm3}{cs:Bx}{g:Int}(h:cz zs cs g=false):bJ zs cs<=g/\g<=cE zs cs:=by
 unfold cz cG at h;rw [Bool.or_eq_false_iff,Bool.or_eq_false_iff] at h;have h1:=of_decide_eq_false h.1.1;have h2:=of_decide_eq_false h.1.2;omega
theorem wD{zs:List Tm3}{cs:Bx}{g:Int}(hc:dJ zs cs)(h:cz zs cs g=false)(hn:oz zs g cs=none):∃ k,k < zs.length/\(cs.getD k default).1 < (cs.getD k default).2:=by
 apply OR;intro hno;obtain⟨h1,h2⟩:=ja h
 have he:=vt hc.len λ i hi=>by
  have:=(hc.at hi).2.1;apply OR;intro hne;exact hno ⟨i,hi,by omega⟩
 unfold oz at hn;rw [if_pos %[0|8]] at hn;cases hn
def mv(zs:List Tm3)(g:Int)(cs:Bx):Nat × Int:=match dg zs cs (g - bJ zs cs) (cE zs cs - g) zs.length with
 | none=>(0,0)
 | some q=>(q.1,bT cs q)
theorem rg{zs:List Tm3}{g:Int}{cs:Bx}(hz:∀ z∈zs,(1:Int)<=z.1)(hc:dJ zs cs)(h:cz zs cs g=false)(hn:oz zs g cs=none):∃ q,dg zs cs (g - bJ zs cs) (cE zs cs - g) zs.length=some q/\mv zs g cs=(q.1,bT cs q)/\q.1 < zs.length/\(cs.getD q.1 default).1<=bT cs q/\bT cs q < (cs.getD q.1 default).2:=by
 obtain⟨q,hq⟩:=jg (zs:=zs) (al:=g - bJ zs cs) (bg:=cE zs cs - g) (wD hc h hn);obtain⟨h1,h2⟩:=ja h;have hp:=CU (λ j hj=>by rw [getD_eq_getElem?_getD,getElem?_eq_getElem hj];exact hz _ (getElem_mem hj)) %[0|8] %[0|8] hq;refine⟨q,hq,?_,(gF hq).1,hp⟩;unfold mv;rw [hq]
def gU(zs:List Tm3)(g:Int)(c:Bx)(s:List V)(more:List Bx):Prop:=(s=[.str "low"]/\g < bJ zs c/\more=[])\/(s=[.str "high"]/\cE zs c < g/\more=[])\/(∃ d:Int,s=[.str "rest",.int d]/\2<=d/\(∀ n∈dM zs c,d ∣ n)/\0 < (g - bJ zs c) % d/\more=[])\/∃ (k:Nat) (a:Int),s=[.str "part",.int (k:Int),.int a]/\k < zs.length/\(c.getD k default).1<=a/\a < (c.getD k default).2/\cz zs c g=false/\more=[loC c k a,upC c k a]
def Rep(zs:List Tm3)(g:Int):List Bx->List (List V)->List Bx->Prop
 | st,[],st'=>st=st'
 | [],_::_,_=>False
 | c::st,s::p,st'=>∃ more,gU zs g c s more/\dJ zs c/\Rep zs g (more++st) p st'
theorem Rep.snoc{zs:List Tm3}{g:Int}{c:Bx}{s:List V}{more st1:List Bx}(hs:gU zs g c s more)(hc:dJ zs c):∀ {p:List (List V)}{st:List Bx},Rep zs g st p (c::st1)->Rep zs g st (p++[s]) (more++st1)
 | [],st,h=>by
  have e:st=c::st1:=by cases st<;>exact h
  subst e;exact⟨more,hs,hc,by show Rep zs g (more++st1) [] (more++st1);cases more++st1<;>rfl⟩
 | _::_,[],h=>h.elim
 | _::_,_::_,⟨m,h1,h2,h3⟩=>⟨m,h1,h2,Rep.snoc hs hc h3⟩
theorem xM{zs:List Tm3}{g:Int}{c:Bx}{s:List V}(h:oB zs c g=some s):gU zs g c s []:=by
 unfold oB EV at h;split at h
 ·rename_i h1;cases h;exact .inl ⟨rfl,h1,rfl⟩
 split at h
 ·rename_i h1;cases h;exact .inr (.inl ⟨rfl,h1,rfl⟩)
 split at h
 ·rename_i h1;cases h;have:=Nr (g - bJ zs c) (show jD (dM zs c) ≠ 0 by omega);exact .inr (.inr (.inl ⟨_,rfl,by omega,(rC (dM zs c) 0).2,by omega,rfl⟩))
 ·cases h
structure Ja(zs:List Tm3)(g:Int)(pf:Bx->Int):Prop where
 one:∀ c,dJ zs c->1<=pf c
 part:∀ c q,dJ zs c->cz zs c g=false->oz zs g c=none->dg zs c (g - bJ zs c) (cE zs c - g) zs.length=some q->pf (loC c q.1 (bT c q))+pf (upC c q.1 (bT c q))+1<=pf c
def ur(pf:Bx->Int):List Bx->Int
 | []=>0
 | c::st=>pf c+ur pf st
theorem Bl{zs:List Tm3}{g:Int}{pf:Bx->Int}(hp:Ja zs g pf):∀ {st:List Bx},(∀ c∈st,dJ zs c)->0<=ur pf st/\(st.length:Int)<=ur pf st
 | [],_=>⟨M5 _,M5 _⟩
 | c::st,h=>by
  have ih:=Bl hp (st:=st) λ d hd=>h d (MD _ hd);have:=hp.one c (h c MF)
  show 0<=pf c+ur pf st/\((st.length+1:Nat):Int)<=pf c+ur pf st
  omega
def mq(zs:List Tm3)(g:Int):Nat->List Bx->List (List V)->Option (Option (List Int) × List (List V))
 | _,[],p=>some (none,p)
 | 0,_::_,_=>none
 | n+1,c::st,p=>match oB zs c g with
  | some s=>mq zs g n st (p++[s])
  | none=>match oz zs g c with
   | some xs=>some (some xs,p)
   | none=>mq zs g n (loC c (mv zs g c).1 (mv zs g c).2::upC c (mv zs g c).1 (mv zs g c).2::st) (p++[[.str "part",.int ((mv zs g c).1:Int),.int (mv zs g c).2]])
theorem pC(zs:List Tm3)(g:Int)(n:Nat)(p:List (List V)):mq zs g n [] p=some (none,p):=by cases n<;>rfl
structure StI(zs:List Tm3)(g:Int)(F:Bx)(most:Int)(st:List Bx)(looked:Int)(pp:List (List V)):Prop where
 ok:∀ c∈st,dJ zs c
 lk:0<=looked/\looked<=most
 len:(pp.length:Int)=looked
 stl:(st.length:Int)<=looked+1
 rep:Rep zs g [F] pp st
 out:mq zs g (most - looked).toNat st pp=mq zs g most.toNat [F] []
theorem StI.step{zs:List Tm3}{g:Int}{F c:Bx}{most looked:Int}{st:List Bx}{pp:List (List V)}(hz:∀ z∈zs,(1:Int)<=z.1)(h:StI zs g F most (c::st) looked pp):dJ zs c/\(looked=most->mq zs g most.toNat [F] []=none)/\(looked ≠ most->(∀ s,oB zs c g=some s->StI zs g F most st (looked+1) (pp++[s]))/\(oB zs c g=none->(∀ xs,oz zs g c=some xs->mq zs g most.toNat [F] []=some (some xs,pp)/\InB c xs/\yr zs xs=g)/\(oz zs g c=none->∃ q,dg zs c (g - bJ zs c) (cE zs c - g) zs.length=some q/\q.1 < zs.length/\StI zs g F most (loC c q.1 (bT c q)::upC c q.1 (bT c q)::st) (looked+1) (pp++[[.str "part",.int (q.1:Int),.int (bT c q)]])))):=by
 have hc:=h.ok c MF;have hst:∀ d∈st,dJ zs d:=λ d hd=>h.ok d (MD _ hd);have hlen:=h.len;have hlk:=h.lk;have hsl:=h.stl;rw [Nc] at hsl;have lsn:∀ s:List V,((pp++[s]).length:Int)=looked+1:=λ s=>by rw [ML,M8];omega
 refine⟨hc,λ e=>?_,λ hne=>?_⟩
 ·rw [←h.out,e,Int.sub_self];rfl
 ·obtain⟨m,hm⟩:∃ m,(most - looked).toNat=m+1:=⟨(most - looked).toNat - 1,by omega⟩;have hm':(most - (looked+1)).toNat=m:=by omega
  have ho:=h.out;rw [hm] at ho;refine⟨λ s he=>⟨hst,by omega,lsn s,by omega,Rep.snoc (xM he) hc h.rep,?_⟩,λ he=>⟨λ xs hx=>⟨?_,GG hc hx⟩,λ hno=>?_⟩⟩
  ·rw [hm',←ho]
   show _=(match oB zs c g with|some s=>_|none=>_)
   rw [he]
  ·rw [←ho]
   show (match oB zs c g with|some s=>_|none=>_)=_
   rw [he]
   show (match oz zs g c with|some xs=>_|none=>_)=_
   rw [hx]
  ·have he':cz zs c g=false:=lC he;obtain⟨q,hq,hpf,hk,a1,a2⟩:=rg hz hc he' hno;obtain⟨o1,o2⟩:=hc.part hk a1 a2;refine⟨q,hq,hk,λ d hd=>?_,by omega,lsn _,by rw [Nc,Nc];omega,Rep.snoc (more:=[loC c q.1 (bT c q),upC c q.1 (bT c q)]) (.inr (.inr (.inr ⟨q.1,bT c q,rfl,hk,a1,a2,he',rfl⟩))) hc h.rep,?_⟩
   ·rcases MU.mp hd with rfl|hd
    ·exact o2
    ·rcases MU.mp hd with rfl|hd
     ·exact o1
     ·exact hst d hd
   ·rw [hm',←ho]
    show _=(match oB zs c g with|some s=>_|none=>_)
    rw [he]
    show _=(match oz zs g c with|some xs=>_|none=>_)
    rw [hno,hpf]
theorem StI.done{zs:List Tm3}{g:Int}{F:Bx}{most looked:Int}{pp:List (List V)}(h:StI zs g F most [] looked pp):mq zs g most.toNat [F] []=some (none,pp)/\Rep zs g [F] pp []/\(pp.length:Int)<=most:=by
 have h1:=h.lk;have h2:=h.len;exact⟨by rw [←h.out,pC],h.rep,by omega⟩
theorem k9{zs:List Tm3}{g:Int}{pf:Bx->Int}(hz:∀ z∈zs,(1:Int)<=z.1)(hp:Ja zs g pf):∀ (n:Nat) (st:List Bx) (p:List (List V)),(∀ c∈st,dJ zs c)->ur pf st<=n->mq zs g n st p ≠ none
 | n,[],p,_,_=>by rw [pC];intro h;cases h
 | 0,c::st,p,h,hn=>by
  have h1:=hp.one c (h c MF);have h2:=(Bl hp (st:=st) λ d hd=>h d (MD _ hd)).1;have e:ur pf (c::st)=pf c+ur pf st:=rfl;omega
 | n+1,c::st,p,h,hn=>by
  have hc:=h c MF;have hst:∀ d∈st,dJ zs d:=λ d hd=>h d (MD _ hd);have h1:=hp.one c hc;have e:ur pf (c::st)=pf c+ur pf st:=rfl
  show (match oB zs c g with|some s=>mq zs g n st (p++[s])|none=>_) ≠ none
  cases he:oB zs c g with
  | some s=>exact k9 hz hp n st _ hst %[0|8]
  | none=>
   show (match oz zs g c with|some xs=>some (some xs,p)|none=>_) ≠ none
   cases hno:oz zs g c with
   | some xs=>intro q;cases q
   | none=>
    have he':cz zs c g=false:=lC he;obtain⟨q,hq,hpf,hk,a1,a2⟩:=rg hz hc he' hno;obtain⟨o1,o2⟩:=hc.part hk a1 a2;have hpv:=hp.part c q hc he' hno hq;rw [hpf];refine k9 hz hp n _ _ (λ d hd=>?_) ?_
    ·rcases MU.mp hd with rfl|hd
     ·exact o2
     ·rcases MU.mp hd with rfl|hd
      ·exact o1
      ·exact hst d hd
    ·show pf (loC c q.1 (bT c q))+(pf (upC c q.1 (bT c q))+ur pf st)<=n
     omega
theorem Gr{zs:List Tm3}{g:Int}(hz:∀ z∈zs,(1:Int)<=z.1):Ja zs g λ c=>2 * fH c - 1:=by
 refine⟨λ c hc=>by have:=oR hc.bx;omega,λ c q hc he hno hq=>?_⟩;have hpv:=rf (cs:=c) (k:=q.1) (a:=bT c q) (by rw [hc.len];exact(gF hq).1)
 show 2 * fH (loC c q.1 (bT c q)) - 1+(2 * fH (upC c q.1 (bT c q)) - 1)+1<=2 * fH c - 1
 omega
def cL:List Tm3->Int
 | []=>0
 | z::zs=>z.1 * (z.2.2 - z.2.1)+cL zs
def kn:List Tm3->Prop
 | []=>True
 | z::zs=>cL zs < z.1/\kn zs
def opn:Bx->Nat
 | []=>0
 | b::c=>(if b.1 < b.2 then 1 else 0)+opn c
def uq:List Tm3->Bx->Int
 | z::zs,b::c=>if b.1 < b.2 then z.1 * (b.2 - b.1) else uq zs c
 | _,_=>0
def ej:Bx->Nat
 | []=>0
 | b::c=>if b.1 < b.2 then 0 else ej c+1
def InZ:List Tm3->Bx->Prop
 | [],[]=>True
 | z::zs,b::c=>(z.2.1<=b.1/\b.1<=b.2/\b.2<=z.2.2)/\InZ zs c
 | _,_=>False
theorem dJ.inz:∀ {zs:List Tm3}{c:Bx},dJ zs c->InZ zs c
 | [],[],_=>trivial
 | [],_::_,h=>by have:=h.len;simp at this
 | _::_,[],h=>by have:=h.len;simp at this
 | z::zs,b::c,h=>⟨h.all (z,b) (by rw [OK];exact MF),dJ.inz ⟨by have:=h.len;simpa using this,λ p hp=>h.all p (by rw [OK];exact MD _ hp)⟩⟩
theorem Bh:∀ {zs:List Tm3}{c:Bx},InZ zs c->(∀ z∈zs,(1:Int)<=z.1)->0<=cE zs c - bJ zs c/\cE zs c - bJ zs c<=cL zs
 | [],[],_,_=>⟨M5 _,M5 _⟩
 | [],_::_,h,_=>h.elim
 | _::_,[],h,_=>h.elim
 | z::zs,b::c,h,hz=>by
  have ih:=Bh h.2 λ y hy=>hz y (MD _ hy);have h1:=hz z MF;obtain⟨s1,s2⟩:=bX z b zs c;obtain⟨⟨a1,a2,a3⟩,_⟩:=h;have m1:=OQ (show 0<=z.1 by omega) (show 0<=b.2 - b.1 by omega);have m2:=Nb (show b.2 - b.1<=z.2.2 - z.2.1 by omega) (show 0<=z.1 by omega);rw [OY] at m1 m2;rw [s1,s2]
  show _/\_<=z.1 * (z.2.2 - z.2.1)+cL zs
  omega
theorem qO:∀ {zs:List Tm3}{c:Bx},InZ zs c->(∀ z∈zs,(1:Int)<=z.1)->kn zs->0 < opn c->ej c < zs.length/\(c.getD (ej c) default).1 < (c.getD (ej c) default).2/\uq zs c=(zs.getD (ej c) default).1 * ((c.getD (ej c) default).2 - (c.getD (ej c) default).1)/\∃ S,0<=S/\S < (zs.getD (ej c) default).1/\cE zs c - bJ zs c=(zs.getD (ej c) default).1 * ((c.getD (ej c) default).2 - (c.getD (ej c) default).1)+S
 | [],[],_,_,_,h=>absurd h ⋯
 | [],_::_,h,_,_,_=>h.elim
 | _::_,[],h,_,_,_=>h.elim
 | z::zs,b::c,h,hz,hf,ho=>by
  obtain⟨s1,s2⟩:=bX z b zs c;have hz':∀ y∈zs,(1:Int)<=y.1:=λ y hy=>hz y (MD _ hy)
  by_cases hb:b.1 < b.2
  ·have e1:ej (b::c)=0:=MI hb;have e2:uq (z::zs) (b::c)=z.1 * (b.2 - b.1):=MI hb;rw [e1,e2];obtain⟨p1,p2⟩:=Bh h.2 hz';have hf1:cL zs < z.1:=hf.1;refine⟨by simp,hb,rfl,cE zs c - bJ zs c,p1,?_,?_⟩
   ·show _ < z.1;omega
   ·show cE (z::zs) (b::c) - bJ (z::zs) (b::c)=z.1 * (b.2 - b.1)+_
    rw [s1,s2,OY];omega
  ·have e1:ej (b::c)=ej c+1:=MH hb;have e2:uq (z::zs) (b::c)=uq zs c:=MH hb;have e3:opn (b::c)=0+opn c:=by show (if b.1 < b.2 then 1 else 0)+opn c=_;rw [MH hb]
   have ih:=qO h.2 hz' hf.2 %[0|8];have hbb:b.1=b.2:=by have:=h.1.2.1;omega
   rw [e1,e2,s1,s2,hbb];obtain⟨i1,i2,i3,S,i4,i5,i6⟩:=ih;exact⟨by simpa using i1,i2,i3,S,i4,i5,by show _=(zs.getD (ej c) default).1 * ((c.getD (ej c) default).2 - (c.getD (ej c) default).1)+S;omega⟩
theorem mJ:∀ {c:Bx}{j:Nat},(c.getD j default).1 < (c.getD j default).2->ej c<=j/\0 < opn c
 | [],j,h=>by
  have h':(0:Int) < 0:=h;omega
 | b::c,0,h=>by
  have h':b.1 < b.2:=h;have e1:ej (b::c)=0:=MI h';have e3:opn (b::c)=1+opn c:=by show (if b.1 < b.2 then 1 else 0)+opn c=_;rw [MI h']
  omega
 | b::c,j+1,h=>by
  have ih:=mJ (c:=c) (j:=j) h;have e3:opn (b::c)=(if b.1 < b.2 then 1 else 0)+opn c:=rfl
  by_cases hb:b.1 < b.2
  ·have e1:ej (b::c)=0:=MI hb;omega
  ·have e1:ej (b::c)=ej c+1:=MH hb;omega
theorem kq:∀ {zs:List Tm3}{c:Bx}{k:Nat}{b:Int × Int},c.length=zs.length->k < c.length->bJ zs (c.set k b)=bJ zs c+(zs.getD k default).1 * (b.1 - (c.getD k default).1)/\cE zs (c.set k b)=cE zs c+(zs.getD k default).1 * (b.2 - (c.getD k default).2)
 | _,[],_,_,_,h=>by simp at h
 | [],_::_,_,_,h,_=>by simp at h
 | z::zs,d::c,0,b,_,_=>by
  obtain⟨s1,s2⟩:=bX z d zs c;obtain⟨r1,r2⟩:=bX z b zs c
  show bJ (z::zs) (b::c)=bJ (z::zs) (d::c)+z.1 * (b.1 - d.1)/\cE (z::zs) (b::c)=cE (z::zs) (d::c)+z.1 * (b.2 - d.2)
  rw [s1,s2,r1,r2,OY,OY];omega
 | z::zs,d::c,k+1,b,hl,hk=>by
  obtain⟨i1,i2⟩:=kq (zs:=zs) (c:=c) (k:=k) (b:=b) (by simpa using hl) (by simpa using hk);obtain⟨s1,s2⟩:=bX z d zs c;obtain⟨r1,r2⟩:=bX z d zs (c.set k b)
  show bJ (z::zs) (d::c.set k b)=bJ (z::zs) (d::c)+(zs.getD k default).1 * (b.1 - (c.getD k default).1)/\cE (z::zs) (d::c.set k b)=cE (z::zs) (d::c)+(zs.getD k default).1 * (b.2 - (c.getD k default).2)
  rw [s1,s2,r1,r2,i1,i2];omega
theorem pF:∀ {c:Bx}{k:Nat}{b:Int × Int},k < c.length->(c.getD k default).1 < (c.getD k default).2->opn (c.set k b)+1=opn c+(if b.1 < b.2 then 1 else 0)
 | [],_,_,h,_=>by simp at h
 | d::c,0,b,_,h=>by
  have h':d.1 < d.2:=h
  show (if b.1 < b.2 then 1 else 0)+opn c+1=(if d.1 < d.2 then 1 else 0)+opn c+_
  rw [MI h'];omega
 | d::c,k+1,b,hk,h=>by
  have ih:=pF (c:=c) (k:=k) (b:=b) (by simpa using hk) h
  show (if d.1 < d.2 then 1 else 0)+opn (c.set k b)+1=(if d.1 < d.2 then 1 else 0)+opn c+_
  omega
theorem qP:∀ {zs:List Tm3}{c:Bx}{b:Int × Int},c.length=zs.length->0 < opn c->b.1 < b.2->uq zs (c.set (ej c) b)=(zs.getD (ej c) default).1 * (b.2 - b.1)
 | _,[],_,_,h,_=>absurd h ⋯
 | [],_::_,_,h,_,_=>by simp at h
 | z::zs,d::c,b,hl,ho,hb=>by
  by_cases hd:d.1 < d.2
  ·have e1:ej (d::c)=0:=MI hd;rw [e1];exact MI hb
  ·have e1:ej (d::c)=ej c+1:=MH hd;have e3:opn (d::c)=0+opn c:=by show (if d.1 < d.2 then 1 else 0)+opn c=_;rw [MH hd]
   rw [e1]
   show (if d.1 < d.2 then _ else uq zs (c.set (ej c) b))=_
   rw [MH hd,qP (by simpa using hl) %[0|8] hb];rfl
def wdF(q:Int × Int):Int:=q.2 - q.1
theorem rP{zs:List Tm3}{cs:Bx}{al bg:Int}:∀ {i:Nat}{q:Nat × Int × Int},dg zs cs al bg i=some q->∀ j,j < i->(cs.getD j default).1 < (cs.getD j default).2->wdF q.2<=wdF (iy (zs.getD j default).1 (cs.getD j default) al bg)/\(q.1<=j\/wdF q.2 < wdF (iy (zs.getD j default).1 (cs.getD j default) al bg))
 | 0,q,h,_,hj,_=>by omega
 | i+1,q,h,j,hj,ho=>by
  have ih:=λ q h=>rP (zs:=zs) (cs:=cs) (al:=al) (bg:=bg) (i:=i) (q:=q) h;have bo:=λ q h=>gF (zs:=zs) (cs:=cs) (al:=al) (bg:=bg) (i:=i) (q:=q) h;unfold dg at h;split at h
  ·rename_i hlt;split at h
   ·rename_i hn;cases h
    by_cases e:j=i
    ·subst e;exact⟨M5 _,.inl (MG _)⟩
    ·obtain⟨q',hq'⟩:=jg (zs:=zs) (al:=al) (bg:=bg) (i:=i) ⟨j,by omega,ho⟩;rw [hn] at hq';cases hq'
   ·rename_i q' hq';split at h
    ·rename_i hl2;cases h
     by_cases e:j=i
     ·subst e;exact⟨M5 _,.inl (MG _)⟩
     ·have:=ih _ hq' j %[0|8] ho;have hl3:wdF (iy (zs.getD i default).1 (cs.getD i default) al bg) < wdF q'.2:=hl2
      show wdF (iy (zs.getD i default).1 (cs.getD i default) al bg)<=_/\(_\/wdF (iy (zs.getD i default).1 (cs.getD i default) al bg) < _)
      omega
    ·rename_i hl2;cases h
     by_cases e:j=i
     ·subst e;have hl3:¬ wdF (iy (zs.getD j default).1 (cs.getD j default) al bg) < wdF q.2:=hl2;have:=(bo _ hq').1;exact⟨by omega,.inl %[0|8]⟩
     ·exact ih _ hq' j %[0|8] ho
  ·rename_i hlt
   by_cases e:j=i
   ·subst e;exact absurd ho hlt
   ·exact ih _ h j %[0|8] ho
def pfF(zs:List Tm3)(g:Int)(c:Bx):Int:=if cz zs c g=true\/opn c=0 then 1 else 4 * (opn c:Int)+(if uq zs c<=g - bJ zs c then -1 else 1)
theorem qu{zs:List Tm3}{g:Int}{c:Bx}(h:cz zs c g=true):pfF zs g c=1:=MI (.inl h)
theorem yz{zs:List Tm3}{g:Int}{c:Bx}:1<=pfF zs g c/\pfF zs g c<=4 * (opn c:Int)+1:=by
 unfold pfF;split
 ·omega
 ·rename_i h;have:opn c ≠ 0:=λ e=>h (.inr e)
  split<;>omega
theorem zb{zs:List Tm3}{g:Int}{c:Bx}(h:uq zs c<=g - bJ zs c)(ho:0 < opn c):pfF zs g c<=4 * (opn c:Int) - 1:=by
 unfold pfF;rw [if_pos h]
 split<;>omega
theorem xK{zs:List Tm3}{g:Int}{c:Bx}(h:g < bJ zs c):cz zs c g=true:=by unfold cz cG;rw [decide_eq_true h];rfl
theorem tW{zs:List Tm3}{g:Int}{c:Bx}(h:cE zs c < g):cz zs c g=true:=by unfold cz cG;rw [decide_eq_true h,Bool.or_true];rfl
theorem iL(x:Int){t:Int}(ht:1<=t):t * (x / t)<=x/\x < t * (x / t)+t:=⟨Int.mul_ediv_self_le %[0|8],Int.lt_mul_ediv_self_add %[0|8]⟩
theorem Ka{t al bg S:Int}{b:Int × Int}(t1:1<=t)(hb:b.1 < b.2)(h0:0<=al)(h1:0<=bg)(e:al+bg=t * (b.2 - b.1)+S)(S1:S < t):wdF (iy t b al bg)<=0:=by
 obtain⟨d1,_⟩:=iL al t1;obtain⟨d2,_⟩:=iL bg t1;have a0:=NT h0 (show 0<=t by omega);have b0:=NT h1 (show 0<=t by omega)
 show (if b.1+al / t < b.2 then b.1+al / t else b.2) - (if b.1 < b.2 - bg / t then b.2 - bg / t else b.1)<=0
 generalize al / t=a at *;generalize bg / t=bb at *
 have hab:a+bb < b.2 - b.1+1:=by
  refine Int.lt_of_mul_lt_mul_left (a:=t) ?_ %[0|8];rw [Of,Of,OD];omega
 split<;>split<;>omega
theorem FU{zs:List Tm3}{g:Int}{c:Bx}{k:Nat}{x:Int}(hl:c.length=zs.length)(hk:k < c.length)(t1:1<=(zs.getD k default).1)(hx:(g - bJ zs c) / (zs.getD k default).1<=x - (c.getD k default).1):cz zs (upC c k x) g=true:=by
 refine xK ?_;unfold upC;rw [(kq hl hk).1]
 show g < bJ zs c+(zs.getD k default).1 * (x+1 - (c.getD k default).1)
 obtain⟨_,d⟩:=iL (g - bJ zs c) t1;have m:=Nb hx (show 0<=(zs.getD k default).1 by omega);rw [show x+1 - (c.getD k default).1=x - (c.getD k default).1+1 by omega,Of,OD];omega
theorem Ip{zs:List Tm3}{g:Int}{c:Bx}{k:Nat}{x:Int}(hl:c.length=zs.length)(hk:k < c.length)(t1:1<=(zs.getD k default).1)(hx:(cE zs c - g) / (zs.getD k default).1+1<=(c.getD k default).2 - x):cz zs (loC c k x) g=true:=by
 refine tW ?_;unfold loC;rw [(kq hl hk).2]
 show cE zs c+(zs.getD k default).1 * (x - (c.getD k default).2) < g
 obtain⟨_,d⟩:=iL (cE zs c - g) t1;have m:=Nb hx (show 0<=(zs.getD k default).1 by omega);rw [Of,OD] at m;rw [show x - (c.getD k default).2=-((c.getD k default).2 - x) by omega,Int.mul_neg];omega
theorem CL{zs:List Tm3}{g:Int}{c:Bx}{q:Nat × Int × Int}(hz:∀ z∈zs,(1:Int)<=z.1)(hf:kn zs)(hc:dJ zs c)(he:cz zs c g=false)(hq:dg zs c (g - bJ zs c) (cE zs c - g) zs.length=some q):pfF zs g (loC c q.1 (bT c q))+pfF zs g (upC c q.1 (bT c q))+1<=pfF zs g c:=by
 obtain⟨g1,g2⟩:=ja he;obtain⟨k1,k2,k3⟩:=gF hq;have hlen:=hc.len;have kc:q.1 < c.length:=by omega
 obtain⟨tf,op⟩:=mJ k2;obtain⟨w1,w2,w3,S,S0,S1,w4⟩:=qO hc.inz hz hf op;obtain⟨m1,m2⟩:=rP hq (ej c) w1 w2
 have ht:∀ j,j < zs.length->1<=(zs.getD j default).1:=λ j hj=>by
  rw [MP,Mx hj];exact hz _ (Nx hj)
 have pfc:pfF zs g c=4 * (opn c:Int)+(if uq zs c<=g - bJ zs c then -1 else 1):=by
  unfold pfF;exact if_neg (by rw [he];intro h;rcases h with h|h;cases h;omega)
 have wtop:=Ka (ht _ w1) w2 (show 0<=g - bJ zs c by omega) (show 0<=cE zs c - g by omega) (S:=S) %[0|8] S1;have t1:=ht _ k1;have a0:=NT (show 0<=g - bJ zs c by omega) (show 0<=(zs.getD q.1 default).1 by omega);have b0:=NT (show 0<=cE zs c - g by omega) (show 0<=(zs.getD q.1 default).1 by omega);have e1:q.2.1=if (c.getD q.1 default).1 < (c.getD q.1 default).2 - (cE zs c - g) / (zs.getD q.1 default).1 then (c.getD q.1 default).2 - (cE zs c - g) / (zs.getD q.1 default).1 else (c.getD q.1 default).1:=by rw [k3];rfl
 have e2:q.2.2=if (c.getD q.1 default).1+(g - bJ zs c) / (zs.getD q.1 default).1 < (c.getD q.1 default).2 then (c.getD q.1 default).1+(g - bJ zs c) / (zs.getD q.1 default).1 else (c.getD q.1 default).2:=by rw [k3];rfl
 have ew:wdF q.2=q.2.2 - q.2.1:=rfl;have ue:=λ x=>FU (zs:=zs) (g:=g) (c:=c) (k:=q.1) (x:=x) hlen kc t1;have le:=λ x=>Ip (zs:=zs) (g:=g) (c:=c) (k:=q.1) (x:=x) hlen kc t1
 by_cases hn:wdF q.2 < 0
 ·-- no number is left: both parts are cz
  have hlt:q.2.2 < (c.getD q.1 default).2:=by rw [e2];rw [e1,e2] at ew;split<;>(split at ew<;>split at ew<;>omega)
  have ek:bT c q=q.2.2:=MI hlt
  have h22:q.2.2=(c.getD q.1 default).1+(g - bJ zs c) / (zs.getD q.1 default).1:=by
   rw [e2] at hlt ⊢;split at hlt
   ·rename_i h;rw [MI h]
   ·omega
  have h21:(cE zs c - g) / (zs.getD q.1 default).1+1<=(c.getD q.1 default).2 - q.2.2:=by
   rw [ew,e1] at hn
   split at hn<;>omega
  rw [ek,qu (ue _ %[0|8]),qu (le _ h21),pfc]
  split<;>omega
 ·have hqt:q.1=ej c:=by
   rcases m2 with h|h
   ·omega
   ·omega
  have hw0:q.2.2=q.2.1:=by omega
  by_cases hlt:q.2.2 < (c.getD q.1 default).2
  ·have ek:bT c q=q.2.2:=MI hlt
   have h22:q.2.2=(c.getD q.1 default).1+(g - bJ zs c) / (zs.getD q.1 default).1:=by
    rw [e2] at hlt ⊢;split at hlt
    ·rename_i h;rw [MI h]
    ·omega
   have hnt:¬ uq zs c<=g - bJ zs c:=by
    obtain⟨_,d⟩:=iL (g - bJ zs c) t1;rw [w3,←hqt];have m:=Nb (show (g - bJ zs c) / (zs.getD q.1 default).1+1<=(c.getD q.1 default).2 - (c.getD q.1 default).1 by omega) (show 0<=(zs.getD q.1 default).1 by omega);rw [Of,OD] at m;omega
   rw [ek,qu (ue _ %[0|8]),pfc,MH hnt];have os:=pF (b:=((c.getD q.1 default).1,q.2.2)) kc k2;have el:loC c q.1 q.2.2=c.set q.1 ((c.getD q.1 default).1,q.2.2):=rfl
   by_cases ho:(c.getD q.1 default).1 < q.2.2
   ·rw [MI ho] at os
    have tt:uq zs (loC c q.1 q.2.2)<=g - bJ zs (loC c q.1 q.2.2):=by
     have s:=(kq (b:=((c.getD q.1 default).1,q.2.2)) hlen kc).1;rw [el,s];rw [hqt] at ho ⊢;rw [qP hlen op ho]
     show (zs.getD (ej c) default).1 * (q.2.2 - (c.getD (ej c) default).1)<=g - (bJ zs c+(zs.getD (ej c) default).1 * ((c.getD (ej c) default).1 - (c.getD (ej c) default).1))
     rw [Int.sub_self,NG,NI];rw [hqt] at h22;rw [h22,show (c.getD (ej c) default).1+(g - bJ zs c) / (zs.getD (ej c) default).1 - (c.getD (ej c) default).1=(g - bJ zs c) / (zs.getD (ej c) default).1 by omega];exact(iL _ (ht _ w1)).1
    have:=zb tt (by rw [el];omega);rw [el] at this ⊢;omega
   ·rw [MH ho] at os;have:=(yz (zs:=zs) (g:=g) (c:=loC c q.1 q.2.2)).2;rw [el] at this ⊢;omega
  ·have h22:q.2.2=(c.getD q.1 default).2:=by
    rw [e2] at hlt ⊢;split at hlt
    ·rename_i h;rw [MI h];omega
    ·rename_i h;rw [MH h]
   have ek:bT c q=(c.getD q.1 default).2 - 1:=by
    show (if q.2.2 < (c.getD q.1 default).2 then q.2.2 else if (c.getD q.1 default).1 < q.2.1 then q.2.1 - 1 else (c.getD q.1 default).1)=_
    rw [MH hlt,MI %[0|8]];omega
   have hb0:(cE zs c - g) / (zs.getD q.1 default).1=0:=by
    rw [←hw0,h22] at e1
    split at e1<;>omega
   rw [ek,qu (le _ %[0|8]),pfc];have os:=pF (b:=((c.getD q.1 default).2 - 1+1,(c.getD q.1 default).2)) kc k2;have el:upC c q.1 ((c.getD q.1 default).2 - 1)=c.set q.1 ((c.getD q.1 default).2 - 1+1,(c.getD q.1 default).2):=rfl;rw [MH (show ¬ (c.getD q.1 default).2 - 1+1 < (c.getD q.1 default).2 by omega)] at os;have:=(yz (zs:=zs) (g:=g) (c:=upC c q.1 ((c.getD q.1 default).2 - 1))).2;rw [el] at this ⊢
   split<;>omega
def g8:List (Int × Int)->Int->Int
 | [],_=>0
 | z::l,t=>(if z.1=t then z.2 else 0)+g8 l t
def EW(l:List (Int × Int)):Int:=(l.map λ z=>z.1 * z.2).sum
def jJ(ks:List Int)(f:Int->Int):Int:=(ks.map λ t=>t * f t).sum
theorem bY(k:Int)(ks:List Int)(f:Int->Int):jJ (k::ks) f=k * f k+jJ ks f:=by unfold jJ;rw [map_cons,sum_cons]
theorem gq:∀ {ks:List Int}{f:Int->Int},(∀ t∈ks,f t=0)->jJ ks f=0
 | [],_,_=>rfl
 | k::ks,f,h=>by rw [bY,h k MF,gq λ t ht=>h t (MD _ ht)];omega
theorem ly:∀ (ks:List Int) (f g:Int->Int),jJ ks (λ t=>f t+g t)=jJ ks f+jJ ks g
 | [],_,_=>rfl
 | k::ks,f,g=>by rw [bY,bY,bY,ly ks f g,Of];omega
theorem jU:∀ {ks:List Int}{f g:Int->Int},(∀ t∈ks,f t=g t)->jJ ks f=jJ ks g
 | [],_,_,_=>rfl
 | k::ks,f,g,h=>by rw [bY,bY,h k MF,jU λ t ht=>h t (MD _ ht)]
theorem lu:∀ {ks:List Int}{a c:Int},ks.Nodup->(a=0\/a∈ks)->jJ ks (λ t=>if a=t then c else 0)=a * c
 | [],a,c,_,h=>by
  rcases h with rfl|h
  ·rw [Int.zero_mul];rfl
  ·cases h
 | k::ks,a,c,hn,h=>by
  rw [bY];obtain⟨hk,hn'⟩:=Nq.mp hn
  by_cases e:a=k
  ·subst e;rw [MI rfl,gq λ t ht=>MH λ e=>hk (by rw [e];exact ht)];omega
  ·rw [MH e,lu hn' (h.imp id λ hm=>(MU.mp hm).resolve_left e),NG];omega
theorem Fp{ks:List Int}(hn:ks.Nodup):∀ {l:List (Int × Int)},(∀ z∈l,z.1=0\/z.1∈ks)->jJ ks (g8 l)=EW l
 | [],_=>gq λ _ _=>rfl
 | z::l,h=>by
  have ih:=Fp hn (l:=l) λ y hy=>h y (mem_cons_of_mem _ hy);have e:g8 (z::l)=λ t=>(if z.1=t then z.2 else 0)+g8 l t:=rfl;rw [e,ly,lu hn (h z mem_cons_self),ih];unfold EW;rw [map_cons,sum_cons]
def ar(p:Int):Int:=(p.natAbs:Int)
def loP(z:Int × Int):Int:=if 0 < z.1 then 0 else 1 - z.2
def hiP(z:Int × Int):Int:=if 0 < z.1 then z.2 - 1 else 0
def eh(P:List (Int × Int)):Int->Int:=g8 (P.map λ z=>(ar z.1,loP z))
def cc(P:List (Int × Int)):Int->Int:=g8 (P.map λ z=>(ar z.1,hiP z))
def gB(P:List (Int × Int)):Int->Int:=g8 (P.map λ z=>(ar z.1,z.2 - 1))
theorem ir:∀ (P:List (Int × Int)) (t:Int),cc P t - eh P t=gB P t
 | [],_=>rfl
 | z::P,t=>by
  have ih:=ir P t;unfold cc eh gB at ih ⊢;rw [map_cons,map_cons,map_cons]
  show (if ar z.1=t then hiP z else 0)+_ - ((if ar z.1=t then loP z else 0)+_)=(if ar z.1=t then z.2 - 1 else 0)+_
  by_cases e:ar z.1=t
  ·rw [MI e,MI e,MI e];have e1:loP z=(if 0 < z.1 then 0 else 1 - z.2):=rfl;have e2:hiP z=(if 0 < z.1 then z.2 - 1 else 0):=rfl;rw [e1,e2]
   split<;>omega
  ·rw [MH e,MH e,MH e];omega
def A6:List (Int × Int)->List Int->Int
 | z::P,y::ys=>z.1 * y+A6 P ys
 | _,_=>0
def InP:List (Int × Int)->List Int->Prop
 | [],[]=>True
 | z::P,y::ys=>(0<=y/\y < z.2)/\InP P ys
 | _,_=>False
def JV:List (Int × Int)->List Int->List (Int × Int)
 | z::P,y::ys=>(ar z.1,if 0 < z.1 then y else 0 - y)::JV P ys
 | _,_=>[]
def ag(ks:List Int)(P:List (Int × Int)):List Tm3:=ks.map λ t=>(t,eh P t,cc P t)
def tkF(z:Int × Int)(L:Int->Int):Int:=if L (ar z.1) < z.2 - 1 then L (ar z.1) else z.2 - 1
def sD(L:Int->Int)(a v:Int):Int->Int:=λ t=>if t=a then v else L t
def fL:(Int->Int)->List (Int × Int)->List Int
 | _,[]=>[]
 | L,z::P=>(if 0<=z.1 then tkF z L else z.2 - 1 - tkF z L)::fL (sD L (ar z.1) (L (ar z.1) - tkF z L)) P
theorem fk(z:Int × Int)(P:List (Int × Int))(t:Int):gB (z::P) t=(if ar z.1=t then z.2 - 1 else 0)+gB P t:=rfl
theorem qH:∀ {P:List (Int × Int)},(∀ z∈P,(1:Int)<=z.2)->∀ t,0<=gB P t
 | [],_,_=>M5 _
 | z::P,h,t=>by
  have ih:=qH (P:=P) (λ y hy=>h y (MD _ hy)) t;have:=h z MF;rw [fk]
  split<;>omega
theorem m5{z:Int × Int}{P:List (Int × Int)}{L:Int->Int}(h1:1<=z.2)(hP:∀ y∈P,(1:Int)<=y.2)(h:∀ t,0<=L t/\L t<=gB (z::P) t):(0<=tkF z L/\tkF z L<=z.2 - 1)/\∀ t,0<=sD L (ar z.1) (L (ar z.1) - tkF z L) t/\sD L (ar z.1) (L (ar z.1) - tkF z L) t<=gB P t:=by
 have ha:=h (ar z.1);rw [fk,if_pos rfl] at ha;have hc:=qH hP (ar z.1);refine⟨by unfold tkF;split<;>omega,λ t=>?_⟩;unfold sD
 by_cases e:t=ar z.1
 ·rw [if_pos e,e];unfold tkF
  split<;>omega
 ·rw [MH e];have:=h t;rw [fk,MH (λ q=>e q.symm)] at this;omega
theorem vU:∀ {P:List (Int × Int)}{L:Int->Int},(∀ y∈P,(1:Int)<=y.2)->(∀ t,0<=L t/\L t<=gB P t)->InP P (fL L P)
 | [],_,_,_=>trivial
 | z::P,L,h1,h=>by
  have hP:∀ y∈P,(1:Int)<=y.2:=λ y hy=>h1 y (MD _ hy);obtain⟨a,b⟩:=m5 (h1 z MF) hP h;refine⟨?_,vU hP b⟩
  show 0<=(if 0<=z.1 then tkF z L else z.2 - 1 - tkF z L)/\(if 0<=z.1 then tkF z L else z.2 - 1 - tkF z L) < z.2
  split<;>omega
theorem rD{ks:List Int}(hn:ks.Nodup):∀ {P:List (Int × Int)}{L:Int->Int},(∀ y∈P,(1:Int)<=y.2)->(∀ z∈P,ar z.1=0\/ar z.1∈ks)->(∀ t,0<=L t/\L t<=gB P t)->A6 P (fL L P)=EW (P.map λ z=>(ar z.1,loP z))+jJ ks L
 | [],L,_,_,h=>by
  rw [gq λ t _=>by have:=h t;have e:gB [] t=0:=rfl;omega];rfl
 | z::P,L,h1,hk,h=>by
  have hP:∀ y∈P,(1:Int)<=y.2:=λ y hy=>h1 y (MD _ hy);obtain⟨a,b⟩:=m5 (h1 z MF) hP h;have ih:=rD hn hP (λ y hy=>hk y (MD _ hy)) b
  have hL:L=λ t=>sD L (ar z.1) (L (ar z.1) - tkF z L) t+(if ar z.1=t then tkF z L else 0):=funext λ t=>by
   unfold sD
   by_cases e:t=ar z.1
   ·rw [MI e,MI e.symm,e];omega
   ·rw [MH e,MH (λ q=>e q.symm)];omega
  have hkS:jJ ks L=jJ ks (sD L (ar z.1) (L (ar z.1) - tkF z L))+ar z.1 * tkF z L:=by
   conv=>lhs;rw [hL]
   rw [ly,lu hn (hk z MF)]
  show z.1 * (if 0<=z.1 then tkF z L else z.2 - 1 - tkF z L)+A6 P (fL (sD L (ar z.1) (L (ar z.1) - tkF z L)) P)=EW ((ar z.1,loP z)::P.map λ z=>(ar z.1,loP z))+jJ ks L
  rw [ih,hkS];unfold EW;rw [map_cons,sum_cons]
  have key:z.1 * (if 0<=z.1 then tkF z L else z.2 - 1 - tkF z L)=ar z.1 * loP z+ar z.1 * tkF z L:=by
   have e1:loP z=(if 0 < z.1 then 0 else 1 - z.2):=rfl;rw [e1];unfold ar
   rcases Int.lt_trichotomy z.1 0 with h|h|h
   ·rw [MH %[0|8],MH %[0|8],show ((z.1.natAbs:Nat):Int)=-z.1 by omega,←Of,show 1 - z.2+tkF z L=-(z.2 - 1 - tkF z L) by omega,Int.neg_mul_neg]
   ·rw [h];simp
   ·rw [MI %[0|8],MI h,show ((z.1.natAbs:Nat):Int)=z.1 by omega,NG,NS]
  rw [key];dsimp only;omega
def cJ:List Tm3->List Int->Int->Int
 | z::zs,x::xs=>λ t=>if z.1=t then x - z.2.1 else cJ zs xs t
 | _,_=>λ _=>0
theorem jm{P:List (Int × Int)}(hc:∀ t,0<=gB P t):∀ {ks:List Int}{xs:List Int},InB ((ag ks P).map λ z=>z.2) xs->∀ t,0<=cJ (ag ks P) xs t/\cJ (ag ks P) xs t<=gB P t
 | [],[],_,t=>⟨M5 _,hc t⟩
 | [],_::_,h,_=>h.elim
 | _::_,[],h,_=>h.elim
 | k::ks,x::xs,h,t=>by
  show 0<=(if k=t then x - eh P k else cJ (ag ks P) xs t)/\(if k=t then x - eh P k else cJ (ag ks P) xs t)<=gB P t
  by_cases e:k=t
  ·rw [MI e];have h1:eh P k<=x/\x<=cc P k:=h.1;have:=ir P k;rw [←e];omega
  ·rw [MH e];exact jm hc h.2 t
theorem rj{P:List (Int × Int)}:∀ {ks:List Int}{xs:List Int},ks.Nodup->InB ((ag ks P).map λ z=>z.2) xs->jJ ks (cJ (ag ks P) xs)=yr (ag ks P) xs - jJ ks (eh P)
 | [],[],_,_=>rfl
 | [],_::_,_,h=>h.elim
 | _::_,[],_,h=>h.elim
 | k::ks,x::xs,hn,h=>by
  obtain⟨hk,hn'⟩:=Nq.mp hn;have ih:=rj hn' h.2;rw [bY,bY]
  have e1:cJ (ag (k::ks) P) (x::xs) k=x - eh P k:=by
   show (if k=k then x - eh P k else cJ (ag ks P) xs k)=_
   rw [MI rfl]
  have e2:jJ ks (cJ (ag (k::ks) P) (x::xs))=jJ ks (cJ (ag ks P) xs):=jU λ t ht=>by
   show (if k=t then x - eh P k else cJ (ag ks P) xs t)=_
   rw [MH λ e=>hk (by rw [e];exact ht)]
  rw [e1,e2,ih]
  show _=k * x+yr (ag ks P) xs - _
  rw [OY];omega
theorem Mb{ks:List Int}{P:List (Int × Int)}{xs:List Int}(hn:ks.Nodup)(h1:∀ y∈P,(1:Int)<=y.2)(hk:∀ z∈P,ar z.1=0\/ar z.1∈ks)(hx:InB ((ag ks P).map λ z=>z.2) xs):InP P (fL (cJ (ag ks P) xs) P)/\A6 P (fL (cJ (ag ks P) xs) P)=yr (ag ks P) xs:=by
 have hb:=jm (qH h1) hx;refine⟨vU h1 hb,?_⟩;rw [rD hn h1 hk hb,rj hn hx]
 have:jJ ks (eh P)=EW (P.map λ z=>(ar z.1,loP z)):=Fp hn λ z hz=>by
  obtain⟨y,hy,rfl⟩:=M9.mp hz;exact hk y hy
 omega
def Ms(ks:List Int)(f:Int->Int):Int:=ks.foldr (λ t r=>(1+f t) * r) 1
def ao(A B:List (Int × Int)):List (Int × Int):=(A.map λ a=>(a.2,a.1))++B.map λ a=>(-a.2,a.1)
theorem iO{l b:Addr}{xs ys:List V}{H:Hp}{Q:VK}(h:H l=some (.lst xs))(h':H b=some (.lst ys))(hl:xs.length+ys.length<=sizeLine)(q:jC (.lst (xs++ys)) H Q):IS IP (.ref l) Q (.ref b) H:=by
 rw [Bu,Bt,aQ,h]
 show aV (aQ H b) (IT xs H Q)
 rw [aQ,h'];exact⟨hl,q⟩
theorem iS{α:Type}{R:α->V->Prop}{as bs:List α}{xs ys:List V}(h1:Al R as xs)(h2:Al R bs ys):Al R (as++bs) (xs++ys):=by
 refine⟨by rw [ML,ML,h1.1,h2.1],λ i z y hz hy=>?_⟩
 by_cases hi:i < as.length
 ·rw [Nu hi] at hz;rw [Nu (by rw [h1.1];exact hi)] at hy;exact h1.2 i z y hz hy
 ·rw [Ng %[0|8]] at hz;rw [Ng (by rw [h1.1];omega),h1.1] at hy;exact h2.2 _ z y hz hy
theorem gG{α β:Type}{R:β->V->Prop}{f:α->β}{as:List α}{ys:List V}(h:Al (λ a y=>R (f a) y) as ys):Al R (as.map f) ys:=by
 refine⟨by rw [MK];exact h.1,λ i z y hz hy=>?_⟩;rw [MZ] at hz;obtain⟨a,ha,rfl⟩:=M4.mp hz;exact h.2 i a y ha hy
abbrev nv(C:Addr)(u:Addr)(v:Addr)(H:Hp)(Q:VK)(E:XK):Prop:=∃ (r1 r2 f1 f2:Int) (A B:List (Int × Int)),aJ C H u r1 f1 A/\aJ C H v r2 f2 B/\A.length<=8/\B.length<=8/\∀ (r:Addr) (H':Hp),H r=none->Ext H H'->cI H' r (ao A B)->Q (.ref r) H'
def oW(C:Addr):Sp:=λ vs H Q E=>∃ (u:Addr) (v:Addr),vs=[.ref u,.ref v]/\(nv C u v H Q E)
theorem m8(C:Addr)(u:Addr)(v:Addr)(H:Hp)(Q:VK)(E:XK):oW C [.ref u,.ref v] H Q E=(nv C u v H Q E):=qj (f:=λ (u:Addr) (v:Addr)=>[.ref u,.ref v]) (λ _ _ _ _ h=>by cases h;exact⟨rfl,rfl⟩) u v
theorem xj(C:Addr){vs:List V}{H:Hp}{Q:VK}{E:XK}(h:oW C vs H Q E):vs.length=2:=qm h λ _ _=>rfl
theorem lj(T:Tx K mg t):bj P w K mg base CX0 1 t.a_pulls t.d_pulls ["one", "other"] (oW t.a_View):=by
 refine T.F_pulls.ok EI (λ vs H Q E h=>xj _ h) (λ c A o s H vs Q E hr h=>?_)
 ·obtain⟨u,v,rfl,r1,r2,f1,f2,A,B,vu,vv,hA,hB,k⟩:=h;obtain⟨dx,l,hu,ys,hl,al⟩:=vu.ob;obtain⟨dy,l2,hv,ys2,hl2,al2⟩:=vv.ob;have c1:=T.cl_View;have c3:=T.na_View_axes;have g1:=dU r1 f1 l;have g2:=dU r2 f2 l2;refine⟨_,%[%[%[gC,%[(["size", "pace", "one", "other"]),(2),(aK (aa iP) ["one", "other"] rfl rfl nofun),rfl,%[%[%[0|0],rfl|29]|23],(λ C s₀ H₀ ex pn=>(%[(2),rfl,%[%[(0),_,(show List.Nodup (["size", "pace", "one", "other"]:List Str) from by decide +kernel),rfl,(Or.inl rfl),%[0|7]|18],%[%[(1),_,(show List.Nodup (["size", "pace", "one", "other"]:List Str) from by decide +kernel),rfl,(Or.inl rfl),%[0|7]|18],(@aw _),∅|15],∅|15],∅,∅|20].mono λ _ _ _ _ h=>aX h)),(λ C s₀ H₀ ex pn=>(@aM _)),(λ C s₀ H₀ ex pn=>%[%[%[1|0],%[%[0|0]|1]|1]|17]),(by intros;rfl)|27],%[(["size", "pace", "one", "other"]),(2),(aK (aa iP) ["one", "other"] rfl rfl nofun),rfl,%[%[%[1|0],rfl|29]|23],(λ C s₀ H₀ ex pn=>(%[(2),rfl,%[%[(0),_,(show List.Nodup (["size", "pace", "one", "other"]:List Str) from by decide +kernel),rfl,(Or.inl rfl),%[0|7]|18],%[%[(1),_,(show List.Nodup (["size", "pace", "one", "other"]:List Str) from by decide +kernel),rfl,(Or.inl rfl),%[0|7]|18],(@aw _),∅|15],∅|15],∅,∅|20].mono λ _ _ _ _ h=>aX h)),(λ C s₀ H₀ ex pn=>(@aM _)),(λ C s₀ H₀ ex pn=>%[%[(@BV _ _ _ _ _ _ oS %[1|0]),%[%[0|0]|1]|1]|17]),(by intros;rfl)|27]|10]|13]|11],?_⟩;rw [show aE ["one", "other"] [.ref u,.ref v]=[some (.ref u),some (.ref v)] from rfl];exists k;ac_rfl;have wk:=fK (K:=K) (R:=axP) (λ _ _ _ _ h e=>h.ext e) hl (mF al);refine cx A (λ _=>true) axP (λ D a y H'=>axP (a.2,a.1) y H') wk.1 wk.2 (λ D a y H1 H2 h e=>axP.ext (a:=(a.2,a.1)) h e) (λ D a y H1 xs o h hD=>axP.upd (z:=(a.2,a.1)) h hD) (az %[0|8]) ?_ ?_
  ·intro D a x H' N1 N0 ha hD e _ ⟨q,hx,hq⟩ k1 _;subst hx;have k1':=k1 rfl;clear k1 k wk;simp! only [↓cC,↓bc];intro t1 H6 ht1 e6 h6;exact k1' _ H6 e6 ⟨t1,rfl,h6⟩
  intro D xs1 H1 hD e1 h1 al1;rw [iC] at al1;have hv1:=e1.at hv;have hl21:=e1.at hl2;exists al1;clear wk;have wk:=fK (K:=K) (R:=axP) (λ _ _ _ _ h e=>h.ext e) hl21 ((mF al2).imp λ _ _ t=>axP.ext t e1);ac_rfl;refine cx B (λ _=>true) axP (λ D a y H'=>axP (-a.2,a.1) y H') wk.1 wk.2 (λ D a y H1 H2 h e=>axP.ext (a:=(-a.2,a.1)) h e) (λ D a y H1 xs o h hD=>axP.upd (z:=(-a.2,a.1)) h hD) (az %[0|8]) ?_ ?_
  ·intro D a x H' N1 N0 ha hD e _ ⟨q,hx,hq⟩ k1 _;subst hx;have k1':=k1 rfl;clear k1 k wk;simp! only [↓cC,↓bc];intro t1 H6 ht1 e6 h6;exact k1' _ H6 e6 ⟨t1,rfl,h6⟩
  intro D2 xs2 H2 hD2 e2 h2 al2';rw [iC] at al2';have h1_2:=e2.at h1;have n1:xs1.length=A.length:=(al1 ()).1;have n2:xs2.length=B.length:=al2'.1;have fin:Al (λ z y=>axP z y H2) (ao A B) (xs1++xs2):=iS (gG ((al1 ()).imp λ _ _ t=>axP.ext t e2)) (gG al2');exists fin;clear wk al1 al2' hv1 hl21;refine iO h1_2 h2 (az %[0|8]) ?_;intro D3 H3 hD3 e3 h3;exact k () D3 H3 ((e1.trans e2).free hD3) (e1.trans (e2.trans e3)) ⟨_,h3,(fin ()).imp λ _ _ t=>axP.ext t e3⟩
abbrev nu(C:Addr)(u:Addr)(v:Addr)(H:Hp)(Q:VK)(E:XK):Prop:=∃ (room f1 f2:Int) (A B:List (Int × Int)),aJ C H u room f1 A/\aJ C H v room f2 B/\Q .non H
def oV(C:Addr):Sp:=λ vs H Q E=>∃ (u:Addr) (v:Addr),vs=[.ref u,.ref v]/\(nu C u v H Q E)
theorem xY(C:Addr)(u:Addr)(v:Addr)(H:Hp)(Q:VK)(E:XK):oV C [.ref u,.ref v] H Q E=(nu C u v H Q E):=qj (f:=λ (u:Addr) (v:Addr)=>[.ref u,.ref v]) (λ _ _ _ _ h=>by cases h;exact⟨rfl,rfl⟩) u v
theorem xi(C:Addr){vs:List V}{H:Hp}{Q:VK}{E:XK}(h:oV C vs H Q E):vs.length=2:=qm h λ _ _=>rfl
theorem jt(T:Tx K mg t):bj P w K mg base CX0 1 t.a_refuse_rooms t.d_refuse_rooms ["one", "other"] (oV t.a_View):=by
 refine T.F_refuse_rooms.ok fE (λ vs H Q E h=>xi _ h) (λ c A o s H vs Q E hr h=>?_)
 ·obtain⟨u,v,rfl,room,f1,f2,A,B,vu,vv,k⟩:=h;obtain⟨dx,D,hu,_⟩:=vu.ob;obtain⟨dy,D2,hv,_⟩:=vv.ob;have c1:=T.cl_View;have c4:=T.na_View_room;have g1:=dS room f1 D;have g2:=dS room f2 D2;refine⟨_,%[%[%[(bN hr.units),%[%[0|0],rfl|29],%[%[1|0],rfl|29],(ae _)|14],%[(@ib _ _)|11],(@ah _)|16]|11],?_⟩;rw [show aE ["one", "other"] [.ref u,.ref v]=[some (.ref u),some (.ref v)] from rfl];ac_rfl
theorem i7{kvs:List (Key × V)}{k:Key}(v:V){x:V}(h:ei kvs k=some x):(dI kvs k v).map (·.1)=kvs.map (·.1):=by
 unfold dI;rw [fg,h,Option.isSome_some,if_pos rfl,map_map];refine List.map_congr_left λ p _=>?_
 show (if p.1=k then (p.1,v) else p).1=p.1
 split<;>rfl
theorem gH:∀ (l:List (Int × Int)) (z:Int × Int) (t:Int),g8 (l++[z]) t=g8 l t+(if z.1=t then z.2 else 0)
 | [],z,t=>by show (if z.1=t then z.2 else 0)+0=0+_;omega
 | y::l,z,t=>by
  show (if y.1=t then y.2 else 0)+g8 (l++[z]) t=(if y.1=t then y.2 else 0)+g8 l t+_
  rw [gH l z t];omega
theorem iq(P:List (Int × Int))(z:Int × Int)(t:Int):eh (P++[z]) t=eh P t+(if ar z.1=t then loP z else 0):=by
 unfold eh;rw [map_append];exact gH _ _ _
theorem gu(P:List (Int × Int))(z:Int × Int)(t:Int):cc (P++[z]) t=cc P t+(if ar z.1=t then hiP z else 0):=by
 unfold cc;rw [map_append];exact gH _ _ _
theorem eQ{f:Int × Int->Int}{t:Int}:∀ {P:List (Int × Int)},(∀ z∈P,¬ ar z.1=t)->g8 (P.map λ z=>(ar z.1,f z)) t=0
 | [],_=>rfl
 | z::P,h=>by
  rw [Nf]
  show (if ar z.1=t then f z else 0)+_=0
  rw [MH (h z MF),eQ λ y hy=>h y (MD _ hy)];rfl
theorem gM{kvs:List (Key × V)}{k:Key}{v:V}(h:ei kvs k=none):(dI kvs k v).map (·.1)=kvs.map (·.1)++[k]:=by
 have hn:=L2.Jb h;unfold dI;split
 ·rename_i hc
  exact absurd hc (by
   intro hc;apply hn
   simpa [M9] using hc)
 ·rw [Om];rfl
structure sF(P:List (Int × Int))(ks:List Int)(k1 k2:List (Key × V)):Prop where
 e1:k1.map (·.1)=ks.map (Sum.inl:Int->Key)
 e2:k2.map (·.1)=ks.map (Sum.inl:Int->Key)
 nd:ks.Nodup
 len:ks.length<=P.length
 v1:∀ t∈ks,ei k1 (.inl t)=some (.int (eh P t))
 v2:∀ t∈ks,ei k2 (.inl t)=some (.int (cc P t))
 mem:∀ t,t∈ks ↔ t ≠ 0/\∃ z∈P,ar z.1=t
theorem fj{kvs:List (Key × V)}{ks:List Int}{t:Int}(e:kvs.map (·.1)=ks.map (Sum.inl:Int->Key))(h:¬ t∈ks):ei kvs (.inl t)=none:=by
 cases hv:ei kvs (.inl t) with
 | none=>rfl
 | some v=>
  exfalso;unfold ei at hv;obtain⟨kv,hf,rfl⟩:=Option.map_eq_some_iff.mp hv;have e2:=List.find?_some hf;have e3:kv.1=.inl t:=of_decide_eq_true e2;have hm:kv.1∈kvs.map (·.1):=List.mem_map.mpr ⟨kv,List.mem_of_find?_eq_some hf,rfl⟩;rw [e,e3] at hm;obtain⟨x,hx,ex⟩:=List.mem_map.mp hm;cases ex;exact h hx
theorem sF.get{P:List (Int × Int)}{ks:List Int}{k1 k2:List (Key × V)}(h:sF P ks k1 k2){t:Int}(ht:t ≠ 0):(ei k1 (.inl t)).getD (.int 0)=.int (eh P t)/\(ei k2 (.inl t)).getD (.int 0)=.int (cc P t):=by
 by_cases hm:t∈ks
 ·rw [h.v1 t hm,h.v2 t hm];exact⟨rfl,rfl⟩
 ·have hno:∀ z∈P,¬ ar z.1=t:=λ z hz e=>hm ((h.mem t).mpr ⟨ht,z,hz,e⟩);rw [fj h.e1 hm,fj h.e2 hm];unfold eh cc;rw [eQ hno,eQ hno];exact⟨rfl,rfl⟩
theorem sF.nil:sF [] [] [] []:=⟨rfl,rfl,Ph,MG _,(λ t h=>by cases h),(λ t h=>by cases h),λ t=>⟨(λ h=>by cases h),λ ⟨_,z,hz,_⟩=>by cases hz⟩⟩
theorem sF.skip{P:List (Int × Int)}{ks:List Int}{k1 k2:List (Key × V)}{z:Int × Int}(h:sF P ks k1 k2)(hz:z.1=0):sF (P++[z]) ks k1 k2:=by
 have h0:ar z.1=0:=by rw [hz];rfl
 have hne:∀ t∈ks,¬ ar z.1=t:=λ t ht e=>((h.mem t).mp ht).1 (by rw [←e];exact h0);refine⟨h.e1,h.e2,h.nd,by rw [ML];have:=h.len;omega,λ t ht=>?_,λ t ht=>?_,λ t=>?_⟩
 ·rw [h.v1 t ht,iq,MH (hne t ht),NI]
 ·rw [h.v2 t ht,gu,MH (hne t ht),NI]
 ·rw [h.mem t];constructor
  ·rintro ⟨a,y,hy,e⟩;exact⟨a,y,NQ _ hy,e⟩
  ·rintro ⟨a,y,hy,e⟩
   rcases Nj.mp hy with hy|hy
   ·exact⟨a,y,hy,e⟩
   ·rw [MV.mp hy,h0] at e;exact absurd e.symm a
theorem sF.put{P:List (Int × Int)}{ks:List Int}{k1 k2:List (Key × V)}{z:Int × Int}(h:sF P ks k1 k2)(hz:z.1 ≠ 0):∃ ks',sF (P++[z]) ks' (dI k1 (.inl (ar z.1)) (.int (eh P (ar z.1)+loP z))) (dI k2 (.inl (ar z.1)) (.int (cc P (ar z.1)+hiP z))):=by
 have h0:ar z.1 ≠ 0:=by unfold ar;omega
 have hv:∀ (k:List (Key × V)) (v:V) (t:Int),ei (dI k (.inl (ar z.1)) v) (.inl t)=if ar z.1=t then some v else ei k (.inl t):=λ k v t=>by
  rw [kJ]
  by_cases e:ar z.1=t
  ·rw [MI e,MI (by rw [e])]
  ·rw [MH e,MH (λ q=>e (by cases q;rfl))]
 have fin:∀ ks',(∀ t,t∈ks' ↔ t∈ks\/t=ar z.1)->(dI k1 (.inl (ar z.1)) (.int (eh P (ar z.1)+loP z))).map (·.1)=ks'.map (Sum.inl:Int->Key)->(dI k2 (.inl (ar z.1)) (.int (cc P (ar z.1)+hiP z))).map (·.1)=ks'.map (Sum.inl:Int->Key)->ks'.Nodup->ks'.length<=ks.length+1->sF (P++[z]) ks' (dI k1 (.inl (ar z.1)) (.int (eh P (ar z.1)+loP z))) (dI k2 (.inl (ar z.1)) (.int (cc P (ar z.1)+hiP z))):=λ ks' hm a1 a2 a3 a4=>by
  refine⟨a1,a2,a3,by rw [ML,M8];have:=h.len;omega,λ t ht=>?_,λ t ht=>?_,λ t=>?_⟩
  ·rw [hv,iq]
   by_cases e:ar z.1=t
   ·rw [MI e,MI e,e]
   ·rw [MH e,MH e,NI];exact h.v1 t (((hm t).mp ht).resolve_right λ q=>e q.symm)
  ·rw [hv,gu]
   by_cases e:ar z.1=t
   ·rw [MI e,MI e,e]
   ·rw [MH e,MH e,NI];exact h.v2 t (((hm t).mp ht).resolve_right λ q=>e q.symm)
  ·rw [hm t,h.mem t];constructor
   ·rintro (⟨a,y,hy,e⟩|e)
    ·exact⟨a,y,NQ _ hy,e⟩
    ·exact⟨by rw [e];exact h0,z,Ni _ MF,e.symm⟩
   ·rintro ⟨a,y,hy,e⟩
    rcases Nj.mp hy with hy|hy
    ·exact .inl ⟨a,y,hy,e⟩
    ·rw [MV.mp hy] at e;exact .inr e.symm
 by_cases hm:ar z.1∈ks
 ·refine⟨ks,fin ks (λ t=>⟨.inl,λ q=>q.elim id λ e=>by rw [e];exact hm⟩) ?_ ?_ h.nd %[0|8]⟩
  ·rw [i7 _ (h.v1 _ hm)];exact h.e1
  ·rw [i7 _ (h.v2 _ hm)];exact h.e2
 ·refine⟨ks++[ar z.1],fin _ (λ t=>by rw [Nj,MV]) ?_ ?_ ?_ (by rw [ML];exact MG _)⟩
  ·rw [gM (fj h.e1 hm),h.e1,Om];rfl
  ·rw [gM (fj h.e2 hm),h.e2,Om];rfl
  ·rw [List.nodup_append];exact⟨h.nd,by simp,λ a ha b hb e=>hm (by rw [MV] at hb;rw [←hb,←e];exact ha)⟩
structure oE(ks:List Int)(P:List (Int × Int)):Prop where
 nd:ks.Nodup
 len:ks.length<=P.length
 mem:∀ t,t∈ks ↔ t ≠ 0/\∃ z∈P,ar z.1=t
 ord:ks.Pairwise (· >= ·)
theorem trP.upd{z:Tm3}{y:V}{H:Hp}{p:Addr}{xs:List V}{o:HO}(h:trP z y H)(hp:H p=some (.lst xs)):trP z y (upd H p o):=by
 obtain⟨q,rfl,hq⟩:=h;exact⟨q,rfl,by rw [ai (λ e=>by rw [e,hp] at hq;cases hq)];exact hq⟩
abbrev sx(C:Addr)(u:Addr)(v:Addr)(H:Hp)(Q:VK)(E:XK):Prop:=∃ (room f1 f2:Int) (A B:List (Int × Int)),aJ C H u room f1 A/\aJ C H v room f2 B/\mn A/\mn B/\∀ (ks:List Int) (l r:Addr) (H':Hp),Ext H H'->H' r=some (.tup [.ref l,.int (f2 - f1)])->gA H' l (ag ks (ao A B))->oE ks (ao A B)->Q (.ref r) H'
def mB(C:Addr):Sp:=λ vs H Q E=>∃ (u:Addr) (v:Addr),vs=[.ref u,.ref v]/\(sx C u v H Q E)
theorem rO(C:Addr)(u:Addr)(v:Addr)(H:Hp)(Q:VK)(E:XK):mB C [.ref u,.ref v] H Q E=(sx C u v H Q E):=qj (f:=λ (u:Addr) (v:Addr)=>[.ref u,.ref v]) (λ _ _ _ _ h=>by cases h;exact⟨rfl,rfl⟩) u v
theorem Af(C:Addr){vs:List V}{H:Hp}{Q:VK}{E:XK}(h:mB C vs H Q E):vs.length=2:=qm h λ _ _=>rfl
theorem jj(T:Tx K mg t):bj P w K mg base CX0 2 t.a_gathered t.d_gathered ["one", "other"] (mB t.a_View):=by
 have G_refuse_rooms:=%[jt|47];have G_pulls:=%[lj|47];refine T.F_gathered.ok aG (λ vs H Q E h=>Af _ h) (λ cdv A' outer s H vs Q E hr h=>?_)
 ·obtain⟨u,v,rfl,room,f1,f2,A,B,vu,vv,hA,hB,k⟩:=h;obtain⟨dx,l1,hu,_⟩:=vu.ob;obtain⟨dy,l2,hv,_⟩:=vv.ob;have c1:=T.cl_View;have c4:=T.na_View_first;have g1:=cX room f1 l1;have g2:=cX room f2 l2;refine⟨_,%[%[%[refuse_rooms,%[%[0|0],%[%[1|0]|1]|1]|3],∅|36],%[(@gf _ _ (2) _ _ _ _ aG.nd rfl (Or.inr rfl) (@fi _ _) ∅ %[0|7]),%[(@gf _ _ (3) _ _ _ _ aG.nd rfl (Or.inr rfl) (@fi _ _) ∅ %[0|7]),%[%[M7,rfl,%[%[pulls,%[%[0|0],%[%[1|0]|1]|1]|3]|23],(%[(2),rfl,%[%[4,aG|5],%[%[5,aG|5],(@aw _),∅|15],∅|15],∅,∅|20].mono λ _ _ _ _ h=>aX h),%[%[%[(bN hr.units),%[4|0],%[0|2],(ae _)|14],%[%[6,aG,%[abs,bC,%[%[4|0]|1]|6]|4],%[%[7,aG,(@ic _ _ _ _ _ _ _ _ %[dz,%[4|0],%[0|2],(ae _)|14] %[aB,%[5|0],%[0|2]|10] %[aB,%[0|2],%[5|0]|10])|4],%[%[(bM hr.units),%[2|0],%[6|0],%[aD,%[(bM hr.units),%[2|0],%[6|0],%[0|2],⟨by rfl,by rfl,by rfl,by rfl⟩|41],%[min,(cU rfl),%[%[0|2],%[%[7|0]|1]|1]|6]|10],rfl|40],%[%[(bM hr.units),%[3|0],%[6|0],%[aD,%[(bM hr.units),%[3|0],%[6|0],%[0|2],⟨by rfl,by rfl,by rfl,by rfl⟩|41],%[max,(cV rfl),%[%[0|2],%[%[7|0]|1]|1]|6]|10],rfl|40]|11]|9]|9]|9],(@ah _)|16]|11],(by intros;rfl)|30],%[%[(["times", "one", "other", "lows", "highs", "pace", "size", "!times", "reach", "terms"]),(1),(8),_,aG.nd,rfl,(Or.inl rfl),(aK (aa dW) ["one", "other", "lows", "highs", "pace", "size", "times", "reach", "terms"] rfl rfl nofun),rfl,%[(@mO _ ("sorted") _ _ _ _ _ _ _ _ _ _ (jW rfl) ∅ T.z_sorted nofun %[%[2|0]|1] (@vF _ _ _ _ _ _ _ (@cO _ _ _ _) (@Bm _)) ⋯ ⋯ ∅ ∅ ∅ ∅ ∅)|23],(λ C s₀ H₀ ex pn=>%[(0),_,(show List.Nodup (["times", "one", "other", "lows", "highs", "pace", "size", "!times", "reach", "terms"]:List Str) from by decide +kernel),rfl,(Or.inl rfl),%[0|7]|18]),(λ C s₀ H₀ ex pn=>(@aM _)),(λ C s₀ H₀ ex pn=>%[%[%[0|0],%[(@iQ _ _ _ _ _ _ (bM hr.units) %[3|0] %[0|0] (λ _ _=>rfl)),%[(@iQ _ _ _ _ _ _ (bM hr.units) %[4|0] %[0|0] (λ _ _=>rfl))|1]|1]|1]|17]),∅,(by intros;rfl),%[0|7]|45],%[%[%[%[%[8|0],%[%[aB,%[%[1|0],rfl|29],%[%[0|0],rfl|29]|10]|1]|1]|17]|13]|11]|9]|9]|9]|9]|9],?_⟩;rw [show aE ["one", "other", "lows", "highs", "pace", "size", "times", "reach", "terms"] [.ref u,.ref v]=[some (.ref u),some (.ref v),none,none,none,none,none,none,none] from rfl];clear G_refuse_rooms G_pulls
  have hsz:∀ z∈ao A B,(1:Int)<=z.2:=λ z hz=>by
   unfold ao at hz
   rcases Nj.mp hz with hz|hz
   ·obtain⟨a,ha,rfl⟩:=M9.mp hz;exact(hA.2 a ha).1
   ·obtain⟨a,ha,rfl⟩:=M9.mp hz;exact(hB.2 a ha).1
  have hPl:(ao A B).length<=16:=by unfold ao;rw [length_append,length_map,length_map];have:=hA.1;have:=hB.1;omega
  exists k;exists hsz;ac_rfl;rw [xY];refine⟨room,f1,f2,A,B,vu,vv,?_⟩;ac_rfl;intro d1 H1 hd1 e1 h1;ac_rfl;intro d2 H2 hd2 e2 h2;have e02:=e1.trans e2;have h1_2:=e2.at h1;have hd1_0:=hd1;have hd2_0:H d2=none:=e1.free hd2;have n12:d1 ≠ d2:=λ z=>by rw [z,hd2] at h1;cases h1
  clear hd1 hd2 h1;ac_rfl;rw [m8];refine⟨room,room,f1,f2,A,B,vu.ext e02,vv.ext e02,hA.1,hB.1,λ r H3 hr3 e3 t3=>?_⟩;obtain⟨ys,hy3,al⟩:=t3;have e03:=e02.trans e3;have nr1:r ≠ d1:=λ z=>by rw [z,h1_2] at hr3;cases hr3
  have nr2:r ≠ d2:=λ z=>by rw [z,h2] at hr3;cases hr3
  have hyl:ys.length=(ao A B).length:=al.1;generalize ao A B=P' at *;have h1_3:=e3.at h1_2;have h2_3:=e3.at h2;exists al;clear hr3 e1 e2 e3 e02 h1_2 h2;ac_rfl;refine dB (xs:=ys) (λ i σ H'=>∃ (ks:List Int) (k1 k2:List (Key × V)) (v4 v5 v6 v7:Option V),σ=[some (.ref u),some (.ref v),some (.ref d1),some (.ref d2),v4,v5,v6,v7,none]/\Ext H H'/\(∀ b o,b ≠ d1->b ≠ d2->H3 b=some o->H' b=some o)/\H' d1=some (.dK k1)/\H' d2=some (.dK k2)/\sF (P'.take i) ks k1 k2) ⟨[],[],[],none,none,none,none,rfl,e03,λ _ _ _ _ h=>h,h1_3,h2_3,sF.nil⟩ (λ i σ H' _ ⟨_,_,_,_,_,_,_,_,_,kp,_⟩=>kp r _ nr1 nr2 hy3) ?_ ?_
  ·rintro i y _ H4 hi ⟨ks,k1,k2,v4,v5,v6,v7,rfl,e4,kp,h14,h24,gi⟩;have hil:i < P'.length:=by have:=(MB.mp hi).1;omega
   obtain⟨z,hz⟩:∃ z,P'[i]? = some z:=⟨_,Mx hil⟩;obtain⟨q,rfl,hq⟩:=(al ()).2 i z y hz hi;have hz1:=hsz () z (N3 hz);have htk:P'.take (i+1)=P'.take i++[z]:=by rw [OC,hz];rfl
   have hq4:=kp q _ (λ e=>by rw [e,h1_3] at hq;cases hq) (λ e=>by rw [e,h2_3] at hq;cases hq) hq;have lk1:k1.length < sizeLine:=gT (by have:=NF List.length gi.e1;have:=gi.len;rw [MK,MK] at *;rw [NP] at *;omega);have lk2:k2.length < sizeLine:=gT (by have:=NF List.length gi.e2;have:=gi.len;rw [MK,MK] at *;rw [NP] at *;omega);rw [htk]
   by_cases hz0:z.1=0
   ·have gs:=λ (_:Unit)=>gi.skip hz0;clear gi hi hz k;simp! only [↓aN];exact⟨ks,k1,k2,_,_,_,_,rfl,e4,kp,rfl,rfl,gs ()⟩
   ·have hab:ar z.1 ≠ 0:=by unfold ar;omega
    obtain⟨b1,b2⟩:=gi.get hab;have gp:=λ (_:Unit)=>gi.put hz0;exists hz1
    have habs:(if z.1 < 0 then -z.1 else z.1)=ar z.1:=by unfold ar;split<;>omega
    clear gi hi hz k
    by_cases hp:0 < z.1
    ·have hmin:(if z.2 - 1 < 0 then z.2 - 1 else 0)=loP z:=by unfold loP;rw [if_pos hp];have:=hz1 ();split<;>omega
     have hmax:(if 0 < z.2 - 1 then z.2 - 1 else 0)=hiP z:=by unfold hiP;rw [if_pos hp];have:=hz1 ();split<;>omega
     simp! only [↓aN];refine fM h14 ?_;ac_rfl;refine iH (k:=.inl (ar z.1)) h14 ?_;rw [b1];ac_rfl;refine gQ (k:=.inl (ar z.1)) h14 lk1 ?_;have h15:upd H4 d1 (.dK (dI k1 (.inl (ar z.1)) (.int (eh (P'.take i) (ar z.1)+loP z)))) d2=some (.dK k2):=by rw [ai (Nd n12)];exact h24
     ac_rfl;refine fM h15 ?_;ac_rfl;refine iH (k:=.inl (ar z.1)) h15 ?_;rw [b2];ac_rfl;refine gQ (k:=.inl (ar z.1)) h15 lk2 ?_;obtain⟨ks',gp'⟩:=gp ();exact⟨ks',_,_,_,_,_,_,rfl,(e4.put hd1_0).put hd2_0,λ b o x1 x2 h=>by rw [ai x2,ai x1];exact kp b o x1 x2 h,by rw [ai n12];exact aj,aj,gp'⟩
    ·have hmin:(if 1 - z.2 < 0 then 1 - z.2 else 0)=loP z:=by unfold loP;rw [if_neg hp];have:=hz1 ();split<;>omega
     have hmax:(if 0 < 1 - z.2 then 1 - z.2 else 0)=hiP z:=by unfold hiP;rw [if_neg hp];have:=hz1 ();split<;>omega
     simp! only [↓aN];refine fM h14 ?_;ac_rfl;refine iH (k:=.inl (ar z.1)) h14 ?_;rw [b1];ac_rfl;refine gQ (k:=.inl (ar z.1)) h14 lk1 ?_;have h15:upd H4 d1 (.dK (dI k1 (.inl (ar z.1)) (.int (eh (P'.take i) (ar z.1)+loP z)))) d2=some (.dK k2):=by rw [ai (Nd n12)];exact h24
     ac_rfl;refine fM h15 ?_;ac_rfl;refine iH (k:=.inl (ar z.1)) h15 ?_;rw [b2];ac_rfl;refine gQ (k:=.inl (ar z.1)) h15 lk2 ?_;obtain⟨ks',gp'⟩:=gp ();exact⟨ks',_,_,_,_,_,_,rfl,(e4.put hd1_0).put hd2_0,λ b o x1 x2 h=>by rw [ai x2,ai x1];exact kp b o x1 x2 h,by rw [ai n12];exact aj,aj,gp'⟩
  ·rintro _ H4 ⟨ks,k1,k2,v4,v5,v6,v7,rfl,e4,kp,h14,h24,gi⟩;rw [hyl,N2] at gi;have hu4:=e4.at hu;have hv4:=e4.at hv;have hk1:ks.length < 64:=by have:=gi.len;omega
   exists gi;clear al hy3 h1_3 h2_3 hd1_0 hd2_0 kp e03 hsz;ac_rfl;refine yP h14 (gi ()).e1 hk1 λ ms hpm hord=>?_;intro q5 H5 hq5 e5 h5;have h14_5:=e5.at h14;have h24_5:=e5.at h24;have hms:ms.length<=64:=by rw [hpm.length_eq];omega
   exists hpm;exists hord;clear hq5;ac_rfl;have wk:=qr (K:=K) h5;refine cx (ms.map V.int) (λ _=>true) (λ z x H'=>x=z/\H' q5=some (.lst (ms.map V.int))) (λ D z y H'=>trP (vi z,eh P' (vi z),cc P' (vi z)) y H') wk.1 wk.2 (λ D z y H1 H2 h e=>trP.ext (z:=(vi z,eh P' (vi z),cc P' (vi z))) h e) (λ D z y H1 xs o h hD=>trP.upd (z:=(vi z,eh P' (vi z),cc P' (vi z))) h hD) (az (by rw [MK];omega)) ?_ ?_
   ·intro D z y H' N1 N0 hz hD e _ ⟨hy,_⟩ kx _;subst hy;obtain⟨t',ht',rfl⟩:=M9.mp hz;have hm:=(hpm ()).mem_iff.mp ht';have w1:=(gi ()).v1 t' hm;have w2:=(gi ()).v2 t' hm;have k1':=kx rfl;have a1:=e.at h14_5;have a2:=e.at h24_5;clear kx k hz wk;simp! only [↓bU,↓bc];refine uI (k:=.inl t') a1 w1 ?_;ac_rfl;refine uI (k:=.inl t') a2 w2 ?_;ac_rfl;intro g H6 _ e6 h6;exact k1' _ H6 e6 ⟨g,rfl,h6⟩
   ·intro D zs H6 hD e6 h6 al6;rw [iC] at al6
    have t6:gA H6 D (ag ms P'):=⟨zs,h6,by
     refine⟨by rw [al6.1];unfold ag;rw [length_map,length_map],λ i z y hz hy=>?_⟩;unfold ag at hz;rw [getElem?_map] at hz;obtain⟨t',ht',rfl⟩:=Option.map_eq_some_iff.mp hz;exact al6.2 i (.int t') y (by rw [getElem?_map,ht'];rfl) hy⟩
    have ko:oE ms P':=⟨(hpm ()).nodup_iff.mpr (gi ()).nd,by rw [(hpm ()).length_eq];exact(gi ()).len,λ t'=>(hpm ()).mem_iff.trans ((gi ()).mem t'),hord ()⟩;have e46:=e5.trans e6;have hu6:=e46.at hu4;have hv6:=e46.at hv4;exists t6;exists ko;clear al6 wk hD h6 h5 hu4 hv4 h14_5 h24_5 h14 h24;ac_rfl;intro r7 H7 _ e7 h7;exact k () ms D r7 H7 (e4.trans (e46.trans e7)) h7 (cu (t6 ()) e7) (ko ())
abbrev ke  (p:Addr) (H:Hp) (Q:VK) (E:XK):Prop:=∃ zs:List Tm3,gA H p zs/\zs.length<=17/\∀ (r:Addr) (H':Hp),Ext H H'->cI H' r (zs.map λ z=>z.2)->Q (.ref r) H'
def k6  : Sp:=λ vs H Q E=>∃ (p:Addr),vs=[.ref p]/\(ke  p H Q E)
theorem uf  (p:Addr) (H:Hp) (Q:VK) (E:XK):k6  [.ref p] H Q E=(ke  p H Q E):=qk (f:=λ (p:Addr)=>[.ref p]) (λ _ _ h=>by cases h;exact rfl) p
theorem tQ  {vs:List V}{H:Hp}{Q:VK}{E:XK}(h:k6  vs H Q E):vs.length=1:=oF h λ _=>rfl
theorem gw(T:Tx K mg t):bj P w K mg base CX0 1 t.a_first_case t.d_first_case ["terms"] k6:=by
 refine T.F_first_case.ok oo (λ vs H Q E h=>tQ h) (λ c A o s H vs Q E hr h=>?_)
 ·obtain⟨p,rfl,zs,⟨ys,hp,al⟩,hl,k⟩:=h;refine⟨_,%[%[%[(["term", "terms"]),(1),(aK (aa dj) ["terms"] rfl rfl nofun),rfl,%[%[0|0]|23],(λ C s₀ H₀ ex pn=>%[(0),_,(show List.Nodup (["term", "terms"]:List Str) from by decide +kernel),rfl,(Or.inl rfl),%[0|7]|18]),(λ C s₀ H₀ ex pn=>(@aM _)),(λ C s₀ H₀ ex pn=>%[%[%[aH,%[0|0],%[0|2],(λ _ _=>rfl)|12],%[%[aH,%[0|0],%[0|2],(λ _ _=>rfl)|12]|1]|1]|17]),(by intros;rfl)|27]|13]|11],?_⟩;rw [show aE ["terms"] [.ref p]=[some (.ref p)] from rfl];exists k;have wk:=fK (K:=K) (R:=trP) (λ _ _ _ _ h e=>h.ext e) hp al;ac_rfl;refine cx zs (λ _=>true) trP (λ D z y H'=>axP z.2 y H') wk.1 wk.2 (λ D z y H1 H2 h e=>axP.ext (a:=z.2) h e) (λ D z y H1 xs o h hD=>axP.upd (z:=z.2) h hD) (az %[0|8]) ?_ ?_
  ·intro D z x H' N1 N0 hz hD e _ ⟨q,hx,hq⟩ k1 _;subst hx;have k1':=k1 rfl;clear k1 k wk;simp! only [↓bU,↓bc];intro t1 H6 ht1 e6 h6;exact k1' _ H6 e6 ⟨t1,rfl,h6⟩
  intro D ys2 H2 hD e2 h2 al2;rw [iC] at al2;have k':=k () D H2 e2 ⟨ys2,h2,gG al2⟩;clear k wk al2;ac_rfl
theorem KQ{n:Nat}{c:Int}(h0:0<=c)(h1:c < n):ixN n c=some c.toNat:=by
 unfold ixN;rw [if_pos h0,if_pos %[0|8]]
theorem qJ{α:Type}{R:α->V->Prop}{zs:List α}{ys:List V}{k:Nat}{z:α}{y:V}(h:Al R zs ys)(r:R z y):Al R (zs.set k z) (ys.set k y):=by
 refine⟨by rw [Pm,Pm];exact h.1,λ i a b ha hb=>?_⟩;rw [List.getElem?_set] at ha hb
 by_cases e:k=i
 ·rw [MI e] at ha hb;split at ha
  ·split at hb
   ·cases ha;cases hb;exact r
   ·cases hb
  ·cases ha
 ·rw [MH e] at ha hb;exact h.2 i a b ha hb
abbrev j1  (q:Addr) (k:Int) (a:Int) (H:Hp) (Q:VK) (E:XK):Prop:=∃ (cs:Bx) (m:Nat),k=(m:Int)/\cI H q cs/\m < cs.length/\cs.length<=17/\∀ (r a1 a2:Addr) (H':Hp),H a1=none->H a2=none->Ext H H'->H' r=some (.lst [.ref a1,.ref a2])->cI H' a1 (upC cs m a)->cI H' a2 (loC cs m a)->Q (.ref r) H'
def kS  : Sp:=λ vs H Q E=>∃ (q:Addr) (k:Int) (a:Int),vs=[.ref q,.int k,.int a]/\(j1  q k a H Q E)
theorem ua  (q:Addr) (k:Int) (a:Int) (H:Hp) (Q:VK) (E:XK):kS  [.ref q,.int k,.int a] H Q E=(j1  q k a H Q E):=qi (f:=λ (q:Addr) (k:Int) (a:Int)=>[.ref q,.int k,.int a]) (λ _ _ _ _ _ _ h=>by cases h;exact⟨rfl,rfl,rfl⟩) q k a
theorem tJ  {vs:List V}{H:Hp}{Q:VK}{E:XK}(h:kS  vs H Q E):vs.length=3:=ql h λ _ _ _=>rfl
theorem mR(T:Tx K mg t):bj P w K mg base CX0 1 t.a_parted t.d_parted ["case", "k", "at"] kS:=by
 refine T.F_parted.ok lM (λ vs H Q E h=>tJ h) (λ c A o s H vs Q E hr h=>?_)
 ·obtain⟨q,_,a,rfl,cs,m,rfl,⟨ys,hq,al⟩,hm,h17,k⟩:=h;refine⟨_,%[%[3,lM,%[dY,∅,T.z_list,nofun,%[%[0|0]|1],⋯,⋯,∅,∅|38]|4],%[%[4,lM,%[dY,∅,T.z_list,nofun,%[%[0|0]|1],⋯,⋯,∅,∅|38]|4],%[%[%[%[%[aD,%[2|0],%[0|2]|10],%[%[aH,%[aH,%[0|0],%[1|0],(λ _ _=>rfl)|12],%[0|2],(λ _ _=>rfl)|12]|1]|1]|17],(@Bp _ _ _ _ _ _ _ %[3|0] %[1|0] qR (by intros;rfl)),∅,∅,∅|39],%[%[%[%[%[aH,%[aH,%[0|0],%[1|0],(λ _ _=>rfl)|12],%[0|2],(λ _ _=>rfl)|12],%[%[2|0]|1]|1]|17],(@Bp _ _ _ _ _ _ _ %[4|0] %[1|0] qR (by intros;rfl)),∅,∅,∅|39],%[%[%[%[%[3|0],%[%[4|0]|1]|1]|19]|13]|11]|9]|9]|9]|9],?_⟩;rw [show aE ["case", "k", "at", "upper", "lower"] [.ref q,.int (m:Int),.int a]=[some (.ref q),some (.int (m:Int)),some (.int a),none,none] from rfl];have hyl:ys.length=cs.length:=al.1;obtain⟨y,hat,hy⟩:=gR al hm;rw [NS] at hat;have ix:ixN ys.length (m:Int)=some m:=by have:=KQ (n:=ys.length) (c:=(m:Int)) %[0|8] %[0|8];rw [Nv] at this;exact this
  exists hyl;exists k;exists al;ac_rfl;intro p1 H1 hp1 e1 h1;have hq1:=e1.at hq;ac_rfl;intro p2 H2 hp2 e2 h2;have hq2:=e2.at hq1;have h1_2:=e2.at h1;have hy2:=(e1.trans e2).at hy;have hp2_0:H p2=none:=e1.free hp2;have n12:p1 ≠ p2:=λ z=>by rw [z,hp2] at h1;cases h1
  have nq1:q ≠ p1:=λ z=>by rw [z,hp1] at hq;cases hq
  have ny1:y ≠ p1:=λ z=>by rw [z,hp1] at hy;cases hy
  have hp1_0:=hp1;clear hp1 hp2 h1 hq1;ac_rfl;intro t3 H3 ht3 e3 h3;have h1_3:=e3.at h1_2;have h2_3:=e3.at h2;have hq3:=e3.at hq2;have hy3:=e3.at hy2;have nt1:t3 ≠ p1:=λ z=>by rw [z,h1_2] at ht3;cases ht3
  have e03:=e1.trans (e2.trans e3);clear ht3 h1_2 h2 hq2 hy2 e1 e2 e3;ac_rfl;have h2_4:upd H3 p1 (.lst (ys.set m (.ref t3))) p2=some (.lst ys):=by rw [ai (Nd n12)];exact h2_3
  have hq4:upd H3 p1 (.lst (ys.set m (.ref t3))) q=some (.lst ys):=by rw [ai nq1];exact hq3
  have hy4:upd H3 p1 (.lst (ys.set m (.ref t3))) y=some (.tup [.int (cs.getD m default).1,.int (cs.getD m default).2]):=by rw [ai ny1];exact hy3
  have h1_4:upd H3 p1 (.lst (ys.set m (.ref t3))) p1=some (.lst (ys.set m (.ref t3))):=aj;have h3_4:upd H3 p1 (.lst (ys.set m (.ref t3))) t3=some (.tup [.int (a+1),.int (cs.getD m default).2]):=by rw [ai nt1];exact h3
  have e04:Ext H (upd H3 p1 (.lst (ys.set m (.ref t3)))):=e03.put hp1_0;generalize upd H3 p1 (.lst (ys.set m (.ref t3)))=H4 at *;clear h1_3 h2_3 hq3 hy3 h3 e03;ac_rfl;intro t5 H5 ht5 e5 h5;have h2_5:=e5.at h2_4;have nt2:t5 ≠ p2:=λ z=>by rw [z,h2_4] at ht5;cases ht5
  have n32:t3 ≠ p2:=λ z=>by rw [z,h2_4] at h3_4;cases h3_4
  have e05:=e04.trans e5;have h1_5:=e5.at h1_4;have h3_5:=e5.at h3_4;clear ht5 hq4 hy4 h2_4 h1_4 h3_4 e04 e5;ac_rfl;have h2_6:upd H5 p2 (.lst (ys.set m (.ref t5))) p2=some (.lst (ys.set m (.ref t5))):=aj;have h1_6:upd H5 p2 (.lst (ys.set m (.ref t5))) p1=some (.lst (ys.set m (.ref t3))):=by rw [ai n12];exact h1_5
  have h3_6:upd H5 p2 (.lst (ys.set m (.ref t5))) t3=some (.tup [.int (a+1),.int (cs.getD m default).2]):=by rw [ai n32];exact h3_5
  have h5_6:upd H5 p2 (.lst (ys.set m (.ref t5))) t5=some (.tup [.int (cs.getD m default).1,.int a]):=by rw [ai nt2];exact h5
  have e06:Ext H (upd H5 p2 (.lst (ys.set m (.ref t5)))):=e05.put hp2_0;generalize upd H5 p2 (.lst (ys.set m (.ref t5)))=H6 at *;clear h1_5 h2_5 h3_5 h5 e05;intro r H7 hr7 e7 h7;have e07:=e06.trans e7;have al7:=λ (_:Unit)=>(al ()).imp λ _ _ t=>axP.ext t e07;exact k () r p1 p2 H7 hp1_0 hp2_0 e07 h7 ⟨_,e7.at h1_6,qJ (al7 ()) ⟨t3,rfl,e7.at h3_6⟩⟩ ⟨_,e7.at h2_6,qJ (al7 ()) ⟨t5,rfl,e7.at h5_6⟩⟩
def Ma(H:Hp):Option (List Int)->V->Prop
 | none,v=>v=.non
 | some xs,v=>∃ r,v=.ref r/\H r=some (.lst (xs.map V.int))
abbrev wg  (p:Addr) (g:Int) (q:Addr) (H:Hp) (Q:VK) (E:XK):Prop:=∃ (zs:List Tm3) (cs:Bx),gA H p zs/\cI H q cs/\cK zs/\dJ zs cs/\∀ v H',Ext H H'->Ma H' (oz zs g cs) v->Q v H'
def BQ  : Sp:=λ vs H Q E=>∃ (p:Addr) (g:Int) (q:Addr),vs=[.ref p,.int g,.ref q]/\(wg  p g q H Q E)
theorem EG  (p:Addr) (g:Int) (q:Addr) (H:Hp) (Q:VK) (E:XK):BQ  [.ref p,.int g,.ref q] H Q E=(wg  p g q H Q E):=qi (f:=λ (p:Addr) (g:Int) (q:Addr)=>[.ref p,.int g,.ref q]) (λ _ _ _ _ _ _ h=>by cases h;exact⟨rfl,rfl,rfl⟩) p g q
theorem Eg  {vs:List V}{H:Hp}{Q:VK}{E:XK}(h:BQ  vs H Q E):vs.length=3:=ql h λ _ _ _=>rfl
theorem dw(T:Tx K mg t):bj P w K mg base CX0 4 t.a_numbers_at_once t.d_numbers_at_once ["terms", "goal", "case"] BQ:=by
 have G_least_sum:=%[fb|47];have G_greatest_sum:=%[dc|47];refine T.F_numbers_at_once.ok gP (λ vs H Q E h=>Eg h) (λ c A o s H vs Q E hr h=>?_)
 ·obtain⟨p,g,q,rfl,zs,cs,hp,hq,ht,hc,k⟩:=h;refine⟨_,%[%[%[(bG hr.units),%[least_sum,%[%[0|0],%[%[2|0]|1]|1]|3],%[1|0],(ae _)|14],%[%[%[(["bounds", "terms", "goal", "case"]),(1),(aK (aa bh) ["terms", "goal", "case"] rfl rfl nofun),rfl,%[%[2|0]|23],(λ C s₀ H₀ ex pn=>%[(0),_,(show List.Nodup (["bounds", "terms", "goal", "case"]:List Str) from by decide +kernel),rfl,(Or.inl rfl),%[0|7]|18]),(λ C s₀ H₀ ex pn=>(@aM _)),(λ C s₀ H₀ ex pn=>%[aH,%[0|0],%[0|2],(λ _ _=>rfl)|12]),(by intros;rfl)|27]|13]|11],(@ah _)|16],%[%[%[(bG hr.units),%[greatest_sum,%[%[0|0],%[%[2|0]|1]|1]|3],%[1|0],(ae _)|14],%[%[%[(["bounds", "terms", "goal", "case"]),(1),(aK (aa bh) ["terms", "goal", "case"] rfl rfl nofun),rfl,%[%[2|0]|23],(λ C s₀ H₀ ex pn=>%[(0),_,(show List.Nodup (["bounds", "terms", "goal", "case"]:List Str) from by decide +kernel),rfl,(Or.inl rfl),%[0|7]|18]),(λ C s₀ H₀ ex pn=>(@aM _)),(λ C s₀ H₀ ex pn=>%[aH,%[0|0],%[0|2],(λ _ _=>rfl)|12]),(by intros;rfl)|27]|13]|11],(@ah _)|16],%[%[(@cR _ _ _)|13]|11]|9]|9],?_⟩;rw [show aE ["terms", "goal", "case"] [.ref p,.int g,.ref q]=[some (.ref p),some (.int g),some (.ref q)] from rfl];clear G_least_sum G_greatest_sum;have h17:cs.length<=17:=by rw [hc.len];exact ht.len
  unfold oz at k;have hq0:=hq;obtain⟨ys,hqy,al⟩:=hq0;exists k;exists al;ac_rfl;rw [lJ];refine⟨zs,cs,hp,hq,ht,hc,λ H1 e1=>?_⟩
  by_cases h1:bJ zs cs=g
  ·rw [MI h1] at k;have hq1:=e1.at hqy;have wk:=fK (K:=K) (R:=axP) (λ _ _ _ _ h e=>h.ext e) hq1 ((al ()).imp λ _ _ t=>axP.ext t e1);ac_rfl;refine bH cs (λ _=>true) (λ b=>.int b.1) axP wk.1 wk.2 (az %[0|8]) ?_ ?_
   ·intro D b x H' N1 N0 hb hD e ⟨q',hx,hq'⟩ k1 _;subst hx;have k1':=k1 rfl H' (Ext.refl _);clear k1 k wk;simp! only [↓bU,↓bc]
   intro D H2 hD e2 h2;rw [iC] at h2;have k':=k () (.ref D) H2 (e1.trans e2) ⟨D,rfl,by rw [h2,NO];rfl⟩;clear k wk h2;ac_rfl
  rw [MH h1] at k;ac_rfl;rw [lL];refine⟨zs,cs,cu hp e1,ay hq e1,ht,hc,λ H2 e2=>?_⟩;have e02:=e1.trans e2
  by_cases h2:cE zs cs=g
  ·rw [MI h2] at k;have hq1:=e02.at hqy;have wk:=fK (K:=K) (R:=axP) (λ _ _ _ _ h e=>h.ext e) hq1 ((al ()).imp λ _ _ t=>axP.ext t e02);ac_rfl;refine bH cs (λ _=>true) (λ b=>.int b.2) axP wk.1 wk.2 (az %[0|8]) ?_ ?_
   ·intro D b x H' N1 N0 hb hD e ⟨q',hx,hq'⟩ k1 _;subst hx;have k1':=k1 rfl H' (Ext.refl _);clear k1 k wk;simp! only [↓bU,↓bc]
   intro D H3 hD e3 h3;rw [iC] at h3;have k':=k () (.ref D) H3 (e02.trans e3) ⟨D,rfl,by rw [h3,NO];rfl⟩;clear k wk h3;ac_rfl
  ·rw [MH h2] at k;have k':=k () .non H2 e02 rfl;clear k;ac_rfl
abbrev j2  (i:Int) (b:Addr) (al:Int) (bg:Int) (H:Hp) (Q:VK) (E:XK):Prop:=∃ c:Int × Int,H b=some (.tup [.int c.1,.int c.2])/\1<=i/\i<=2000000000000000000/\∀ (r:Addr) (H':Hp),H r=none->Ext H H'->H' r=some (.tup [.int (iy i c al bg).1,.int (iy i c al bg).2])->Q (.ref r) H'
def kT  : Sp:=λ vs H Q E=>∃ (i:Int) (b:Addr) (al:Int) (bg:Int),vs=[.int i,.ref b,.int al,.int bg]/\(j2  i b al bg H Q E)
theorem ub  (i:Int) (b:Addr) (al:Int) (bg:Int) (H:Hp) (Q:VK) (E:XK):kT  [.int i,.ref b,.int al,.int bg] H Q E=(j2  i b al bg H Q E):=BI (f:=λ (i:Int) (b:Addr) (al:Int) (bg:Int)=>[.int i,.ref b,.int al,.int bg]) (λ _ _ _ _ _ _ _ _ h=>by cases h;exact⟨rfl,rfl,rfl,rfl⟩) i b al bg
theorem tK  {vs:List V}{H:Hp}{Q:VK}{E:XK}(h:kT  vs H Q E):vs.length=4:=BJ h λ _ _ _ _=>rfl
theorem pQ(T:Tx K mg t):bj P w K mg base CX0 1 t.a_narrowed t.d_narrowed ["times", "bounds", "above_least", "below_greatest"] kT:=by
 refine T.F_narrowed.ok ug (λ vs H Q E h=>tK h) (λ c A o s H vs Q E hr h=>?_)
 ·obtain⟨i,b,al,bg,rfl,c,hb,i1,i2,k⟩:=h;refine⟨_,%[%[%[%[%[max,(cV rfl),%[%[aH,%[1|0],%[0|2],(λ _ _=>rfl)|12],%[%[aB,%[aH,%[1|0],%[0|2],(λ _ _=>rfl)|12],%[il,%[3|0],%[0|0]|10]|10]|1]|1]|6],%[%[min,(cU rfl),%[%[aH,%[1|0],%[0|2],(λ _ _=>rfl)|12],%[%[aD,%[aH,%[1|0],%[0|2],(λ _ _=>rfl)|12],%[il,%[2|0],%[0|0]|10]|10]|1]|1]|6]|1]|1]|17]|13]|11],?_⟩;rw [show aE ["times", "bounds", "above_least", "below_greatest"] [.int i,.ref b,.int al,.int bg]=[some (.int i),some (.ref b),some (.int al),some (.int bg)] from rfl];have d1:sJ al i:=⟨by omega,by omega⟩;have d2:sJ bg i:=⟨by omega,by omega⟩;unfold iy at k;exists k;ac_rfl;intro r H1 hr e1 h1;rw [Int.fdiv_eq_ediv_of_nonneg _ %[0|8],Int.fdiv_eq_ediv_of_nonneg _ %[0|8]] at h1;exact k () r H1 hr e1 h1
def yM(H:Hp):Option (Nat × Int × Int)->V->Prop
 | none,v=>v=.non
 | some q,v=>∃ r kp,v=.ref r/\H r=some (.tup [.int (q.1:Int),.ref kp])/\H kp=some (.tup [.int q.2.1,.int q.2.2])
theorem yM.ext{H H':Hp}{o:Option (Nat × Int × Int)}{v:V}(h:yM H o v)(e:Ext H H'):yM H' o v:=by
 cases o with
 | none=>exact h
 | some q=>
  obtain⟨r,kp,h1,h2,h3⟩:=h;exact⟨r,kp,h1,e.at h2,e.at h3⟩
theorem yl(zs:List Tm3)(cs:Bx)(al bg:Int)(i:Nat):dg zs cs al bg (i+1)=if (cs.getD i default).1 < (cs.getD i default).2 then (match dg zs cs al bg i with|none=>some (i,iy (zs.getD i default).1 (cs.getD i default) al bg)|some q=>if (iy (zs.getD i default).1 (cs.getD i default) al bg).2 - (iy (zs.getD i default).1 (cs.getD i default) al bg).1 < q.2.2 - q.2.1 then some (i,iy (zs.getD i default).1 (cs.getD i default) al bg) else some q) else dg zs cs al bg i:=rfl
abbrev rT  (p:Addr) (g:Int) (q:Addr) (H:Hp) (Q:VK) (E:XK):Prop:=∃ (zs:List Tm3) (cs:Bx) (b:Nat × Int × Int),gA H p zs/\cI H q cs/\cK zs/\dJ zs cs/\dg zs cs (g - bJ zs cs) (cE zs cs - g) zs.length=some b/\b.1 < zs.length/\∀ (r:Addr) (H':Hp),Ext H H'->H' r=some (.tup [.str "part",.int (b.1:Int),.int (bT cs b)])->Q (.ref r) H'
def uO  : Sp:=λ vs H Q E=>∃ (p:Addr) (g:Int) (q:Addr),vs=[.ref p,.int g,.ref q]/\(rT  p g q H Q E)
theorem AW  (p:Addr) (g:Int) (q:Addr) (H:Hp) (Q:VK) (E:XK):uO  [.ref p,.int g,.ref q] H Q E=(rT  p g q H Q E):=qi (f:=λ (p:Addr) (g:Int) (q:Addr)=>[.ref p,.int g,.ref q]) (λ _ _ _ _ _ _ h=>by cases h;exact⟨rfl,rfl,rfl⟩) p g q
theorem zT  {vs:List V}{H:Hp}{Q:VK}{E:XK}(h:uO  vs H Q E):vs.length=3:=ql h λ _ _ _=>rfl
theorem jR(T:Tx K mg t):bj P w K mg base CX0 4 t.a_parting t.d_parting ["terms", "goal", "case"] uO:=by
 have G_least_sum:=%[fb|47];have G_greatest_sum:=%[dc|47];have G_narrowed:=%[pQ|47];refine T.F_parting.ok bI (λ vs H Q E h=>zT h) (λ c A o s H vs Q E hr h=>?_)
 ·obtain⟨p,g,q,rfl,zs,cs,b,hp,hq,ht,hc,hb,hbl,k⟩:=h;refine⟨_,%[%[3,bI,%[aB,%[1|0],%[least_sum,%[%[0|0],%[%[2|0]|1]|1]|3]|10]|4],%[%[4,bI,%[aB,%[greatest_sum,%[%[0|0],%[%[2|0]|1]|1]|3],%[1|0]|10]|4],%[%[5,bI,(@cR _ _ _)|4],%[%[M7,rfl,(@CI _ _ _ _ _ _ _ _ ∅ T.z_enumerate %[%[2|0]|1] ∅),(%[(2),rfl,%[%[6,bI|5],%[%[7,bI|5],(@aw _),∅|15],∅|15],∅,∅|20].mono λ _ _ _ _ h=>aX h),%[%[%[eo,%[aH,%[7|0],%[0|2],(λ _ _=>rfl)|12],%[aH,%[7|0],%[0|2],(λ _ _=>rfl)|12],(ae _)|14],%[%[8,bI,%[narrowed,%[%[aH,%[aH,%[0|0],%[6|0],(λ _ _=>rfl)|12],%[0|2],(λ _ _=>rfl)|12],%[%[7|0],%[%[3|0],%[%[4|0]|1]|1]|1]|1]|3]|4],%[%[(PW.pt %[%[qx,%[5|0],(@cR _ _ _),(ae _)|14],%[%[eo,%[aB,%[aH,%[8|0],%[0|2],(λ _ _=>rfl)|12],%[aH,%[8|0],%[0|2],(λ _ _=>rfl)|12]|10],%[aB,%[aH,%[aH,%[5|0],%[0|2],(λ _ _=>rfl)|12],%[0|2],(λ _ _=>rfl)|12],%[aH,%[aH,%[5|0],%[0|2],(λ _ _=>rfl)|12],%[0|2],(λ _ _=>rfl)|12]|10],(ae _)|14]|28]|22]),%[%[5,bI,%[%[%[6|0],%[%[8|0]|1]|1]|17]|4]|11],(@ah _)|16]|11]|9],(@ah _)|16]|11],(by intros;rfl)|30],%[%[6,bI,%[aH,%[5|0],%[0|2],(λ _ _=>rfl)|12]|4],%[%[8,bI,%[aH,%[5|0],%[0|2],(λ _ _=>rfl)|12]|4],%[%[%[eo,%[aH,%[8|0],%[0|2],(λ _ _=>rfl)|12],%[aH,%[aH,%[2|0],%[6|0],(λ _ _=>rfl)|12],%[0|2],(λ _ _=>rfl)|12],(ae _)|14],%[%[%[%[(@aW _ _ _ _),%[%[6|0],%[%[aH,%[8|0],%[0|2],(λ _ _=>rfl)|12]|1]|1]|1]|17]|13]|11],(@ah _)|16],%[%[%[dz,%[aH,%[8|0],%[0|2],(λ _ _=>rfl)|12],%[aH,%[aH,%[2|0],%[6|0],(λ _ _=>rfl)|12],%[0|2],(λ _ _=>rfl)|12],(ae _)|14],%[%[%[%[(@aW _ _ _ _),%[%[6|0],%[%[aB,%[aH,%[8|0],%[0|2],(λ _ _=>rfl)|12],%[0|2]|10]|1]|1]|1]|17]|13]|11],(@ah _)|16],%[%[%[%[(@aW _ _ _ _),%[%[6|0],%[%[aH,%[aH,%[2|0],%[6|0],(λ _ _=>rfl)|12],%[0|2],(λ _ _=>rfl)|12]|1]|1]|1]|17]|13]|11]|9]|9]|9]|9]|9]|9]|9]|9],?_⟩;rw [show aE ["terms", "goal", "case", "above_least", "below_greatest", "best", "k", "bounds", "kept"] [.ref p,.int g,.ref q]=[some (.ref p),some (.int g),some (.ref q),none,none,none,none,none,none] from rfl];clear G_least_sum G_greatest_sum G_narrowed;have h17:=ht.len;have hcl:=hc.len;obtain⟨xs,hpx,alp⟩:=hp;obtain⟨ys,hqy,alq⟩:=hq;have hp:gA H p zs:=⟨xs,hpx,alp⟩;have hq:cI H q cs:=⟨ys,hqy,alq⟩;have hyl:ys.length=cs.length:=alq.1
  have tl:∀ i,i < zs.length->1<=(zs.getD i default).1/\(zs.getD i default).1<=2000000000000000000:=λ i hi=>by
   rw [MP,Mx hi];exact(ht.all _ (Nx hi)).1
  exists k;exists tl;exists alp;exists alq;exists hyl;exists hcl;exists hb;ac_rfl;rw [lJ];refine⟨zs,cs,hp,hq,ht,hc,λ H1 e1=>?_⟩;ac_rfl;rw [lL];refine⟨zs,cs,cu hp e1,ay hq e1,ht,hc,λ H2 e2=>?_⟩;have e02:=e1.trans e2;have hq2:=e02.at hqy;clear e1 e2;ac_rfl;generalize g - bJ zs cs=al at *;generalize cE zs cs - g=bg at *;refine AE (xs:=ys) (λ i σ H'=>∃ (vb:V) (v6 v7 v8:Option V),σ=[some (.ref p),some (.int g),some (.ref q),some (.int al),some (.int bg),some vb,v6,v7,v8]/\Ext H H'/\yM H' (dg zs cs al bg i) vb) ⟨.non,none,none,none,rfl,e02,rfl⟩ (λ i σ H' ⟨_,_,_,_,_,e,_⟩=>e.at hqy) ?_ ?_
  ·rintro i u pp _ H3 H4 hi ⟨vb,v6,v7,v8,rfl,e3,bv⟩ hpp e4 h4;have hic:i < cs.length:=by have:=(MB.mp hi).1;have:=hyl ();omega
   have hiz:i < zs.length:=by have:=hcl ();omega
   obtain⟨c1,c2,hu⟩:=gR (alq ()) hic;rw [NS,fQ hi] at c2;cases c2;obtain⟨z1,z2,hz⟩:=mz (alp ()) hiz;rw [NS] at z2;have e04:=e3.trans e4;have hu4:=e04.at hu;have hz4:=e04.at hz;have hp4:=e04.at hpx;have tli:=tl () i hiz;have bv4:=λ (_:Unit)=>bv.ext e4;have bs:=yl zs cs al bg i;generalize dg zs cs al bg (i+1)=o1 at *;generalize dg zs cs al bg i=o0 at *;generalize zs.getD i default=zi at *;generalize cs.getD i default=ci at *;exists bs;clear bv hi hpp hu hz k hb hq2
   by_cases hlt:ci.1 < ci.2
   ·have bs':=bs ();rw [MI hlt] at bs';exists bs';clear bs;simp! only [↓aN];rw [ub];refine⟨ci,hu4,tli.1,tli.2,λ r5 H5 hr5 e5 h5=>?_⟩;have e05:=e04.trans e5;generalize iy zi.1 ci al bg=nr at *;clear hr5
    cases o0 with
    | none=>
     have hvb:vb=.non:=bv4 ();subst hvb;have bs2:o1=some (i,nr):=bs' ();clear bs' bv4;ac_rfl;intro r6 H6 _ e6 h6;refine⟨_,_,_,_,rfl,e05.trans e6,?_⟩;exact⟨r6,r5,rfl,h6,e6.at h5⟩
    | some q0=>
     obtain⟨rb,kb,hvb,hrb,hkb⟩:=bv4 ();subst hvb;have hrb5:=e5.at hrb;have hkb5:=e5.at hkb;have bs2:o1=if nr.2 - nr.1 < q0.2.2 - q0.2.1 then some (i,nr) else some q0:=bs' ()
     exists bs2;clear bs' bv4 hrb hkb
     by_cases hl2:nr.2 - nr.1 < q0.2.2 - q0.2.1
     ·have bs3:=bs2 ();rw [MI hl2] at bs3;exists bs3;clear bs2;ac_rfl;intro r6 H6 _ e6 h6;refine⟨_,_,_,_,rfl,e05.trans e6,?_⟩;rw [bs3 ()];exact⟨r6,r5,rfl,h6,e6.at h5⟩
     ·have bs3:=bs2 ();rw [MH hl2] at bs3;exists bs3;clear bs2;ac_rfl;refine⟨_,_,_,_,rfl,e05,?_⟩;rw [bs3 ()];exact⟨rb,kb,rfl,hrb5,hkb5⟩
   ·have bs':=bs ();rw [MH hlt] at bs';exists bs';clear bs;simp! only [↓aN];exact⟨_,_,_,_,rfl,e04,by rw [bs' ()];exact bv4 ()⟩
  ·rintro _ H3 ⟨vb,v6,v7,v8,rfl,e3,bv⟩;rw [hyl (),hcl (),hb ()] at bv;obtain⟨rb,kb,hvb,hrb,hkb⟩:=bv;subst hvb;have hbc:b.1 < cs.length:=by have:=hcl ();omega
   obtain⟨c1,c2,hu⟩:=gR (alq ()) hbc;rw [NS] at c2;have hu3:=e3.at hu;have hq3:=e3.at hqy;have hpk:∀ x,(if b.2.2 < (cs.getD b.1 default).2 then b.2.2 else if (cs.getD b.1 default).1 < b.2.1 then b.2.1 - 1 else (cs.getD b.1 default).1)=x->bT cs b=x:=λ x h=>h;generalize bT cs b=pk at *;generalize cs.getD b.1 default=cb at *;exists hpk;clear hu hq2
   by_cases h1:b.2.2 < cb.2
   ·ac_rfl;intro r4 H4 _ e4 h4;exact k () r4 H4 (e3.trans e4) (by rw [h4,hpk () b.2.2 (by rw [MI h1])])
   by_cases h2:cb.1 < b.2.1
   ·ac_rfl;intro r4 H4 _ e4 h4;exact k () r4 H4 (e3.trans e4) (by rw [h4,hpk () (b.2.1 - 1) (by rw [MH h1,MI h2])])
   ·ac_rfl;intro r4 H4 _ e4 h4;exact k () r4 H4 (e3.trans e4) (by rw [h4,hpk () cb.1 (by rw [MH h1,MH h2])])
theorem AO(xs:List V)(z:Int)(h:0<=z):kg xs (some z) none=xs.drop z.toNat:=by
 unfold kg;obtain⟨n,rfl⟩:=Int.eq_ofNat_of_zero_le h;rw [HT.sIx_none,HT.sIx_nat]
 show _=xs.drop n
 rcases Px n xs.length with q|q
 ·rw [Pa q];exact NC (by rw [Pd];omega)
 ·rw [OZ q,Ot (MG _),Ot q,List.take_nil]
theorem IE(xs:List V)(z:Int)(h:0<=z):kg xs none (some z)=xs.take z.toNat:=by
 unfold kg;obtain⟨n,rfl⟩:=Int.eq_ofNat_of_zero_le h;rw [HT.sIx_none,HT.sIx_nat,List.drop_zero,Nat.sub_zero]
 show xs.take (min n xs.length)=xs.take n
 rcases Px n xs.length with q|q
 ·rw [Pa q]
 ·rw [OZ q,N2,NC q]
def DL(kvs:List (Key × V))(L:Int->Int):Prop:=∀ t,(ei kvs (.inl t)).getD (.int 0)=.int (L t)
theorem DL.nil:DL [] (λ _=>0):=λ _=>rfl
theorem DL.put{kvs:List (Key × V)}{L:Int->Int}(h:DL kvs L)(a v:Int):DL (dI kvs (.inl a) (.int v)) (sD L a v):=λ t=>by
 rw [kJ];unfold sD
 by_cases e:t=a
 ·rw [MI e,MI (by rw [e])];rfl
 ·rw [MH e,MH (λ q=>e (by cases q;rfl))];exact h t
theorem mX{z:Tm3}{x:Int}:∀ {zs:List Tm3}{xs:List Int},xs.length=zs.length->(∀ y∈zs,¬ y.1=z.1)->cJ (zs++[z]) (xs++[x])=sD (cJ zs xs) z.1 (x - z.2.1)
 | [],[],_,_=>funext λ t=>by
  show (if z.1=t then x - z.2.1 else 0)=if t=z.1 then x - z.2.1 else 0
  by_cases e:z.1=t
  ·rw [MI e,MI e.symm]
  ·rw [MH e,MH (λ q=>e q.symm)]
 | [],_::_,h,_=>by simp at h
 | _::_,[],h,_=>by simp at h
 | y::zs,u::xs,h,hn=>funext λ t=>by
  have ih:=congrFun (mX (z:=z) (x:=x) (zs:=zs) (xs:=xs) (by simpa using h) λ w hw=>hn w (MD _ hw)) t;have hy:=hn y MF
  show (if y.1=t then u - y.2.1 else cJ (zs++[z]) (xs++[x]) t)=if t=z.1 then x - z.2.1 else if y.1=t then u - y.2.1 else cJ zs xs t
  rw [ih];unfold sD
  by_cases e:t=z.1
  ·rw [MI e,MI e,MH (λ q=>hy (q.trans e))]
  ·rw [MH e,MH e]
theorem qV{κ:Type}[DecidableEq κ](kvs:List (κ × V))(k:κ)(v:V):(dI kvs k v).length<=kvs.length+1:=by
 unfold dI;split
 ·rw [MK];omega
 ·rw [ML,M8];exact MG _
abbrev nM(C:Addr)(u:Addr)(v:Addr)(p:Addr)(q:Addr)(H:Hp)(Q:VK)(E:XK):Prop:=∃ (r1 r2 f1 f2:Int) (A B:List (Int × Int)) (zs:List Tm3) (xs:List Int),aJ C H u r1 f1 A/\aJ C H v r2 f2 B/\A.length<=8/\B.length<=8/\gA H p zs/\zs.length<=17/\(zs.map λ z=>z.1).Nodup/\H q=some (.lst (xs.map V.int))/\xs.length=zs.length/\∀ (r a1 a2:Addr) (H':Hp),Ext H H'->H' r=some (.tup [.str "shared",.ref a1,.ref a2])->H' a1=some (.tup (((fL (cJ zs xs) (ao A B)).take A.length).map V.int))->H' a2=some (.tup (((fL (cJ zs xs) (ao A B)).drop A.length).map V.int))->Q (.ref r) H'
def pw(C:Addr):Sp:=λ vs H Q E=>∃ (u:Addr) (v:Addr) (p:Addr) (q:Addr),vs=[.ref u,.ref v,.ref p,.ref q]/\(nM C u v p q H Q E)
theorem yh(C:Addr)(u:Addr)(v:Addr)(p:Addr)(q:Addr)(H:Hp)(Q:VK)(E:XK):pw C [.ref u,.ref v,.ref p,.ref q] H Q E=(nM C u v p q H Q E):=BI (f:=λ (u:Addr) (v:Addr) (p:Addr) (q:Addr)=>[.ref u,.ref v,.ref p,.ref q]) (λ _ _ _ _ _ _ _ _ h=>by cases h;exact⟨rfl,rfl,rfl,rfl⟩) u v p q
theorem xx(C:Addr){vs:List V}{H:Hp}{Q:VK}{E:XK}(h:pw C vs H Q E):vs.length=4:=BJ h λ _ _ _ _=>rfl
theorem cH(T:Tx K mg t):bj P w K mg base CX0 2 t.a_places_by_numbers t.d_places_by_numbers ["one", "other", "terms", "numbers"] (pw t.a_View):=by
 have G_pulls:=%[lj|47];refine T.F_places_by_numbers.ok av (λ vs H Q E h=>xx _ h) (λ cdv A' outer s H vs Q E hr h=>?_)
 ·obtain⟨u,v,p,q,rfl,r1,r2,f1,f2,A,B,zs,xs,vu,vv,hA,hB,⟨ts,hp,al⟩,h17,hnd,hq,hxl,k⟩:=h;obtain⟨dx,lx,hu,⟨ax,hax,alA⟩⟩:=vu.ob;have c1:=T.cl_View;have c3:=T.na_View_axes;have g1:=dU r1 f1 lx;refine⟨_,%[%[4,av,(@fi _ _)|4],%[%[PassesOwn.never,rfl,%[∅,T.z_zip,%[%[2|0],%[%[3|0]|1]|1],∅,∅|44],(%[(2),rfl,%[%[5,av|5],%[%[6,av|5],(@aw _),∅|15],∅|15],∅,∅|20].mono λ _ _ _ _ h=>aX h),%[%[(bM hr.units),%[4|0],%[aH,%[5|0],%[0|2],(λ _ _=>rfl)|12],%[aB,%[6|0],%[aH,%[5|0],%[0|2],(λ _ _=>rfl)|12]|10],rfl|40]|11],(by intros;rfl)|30],%[%[7,av,%[(@cF _)|19]|4],%[%[PassesOwn.never,rfl,%[%[pulls,%[%[0|0],%[%[1|0]|1]|1]|3]|23],(%[(2),rfl,%[%[8,av|5],%[%[9,av|5],(@aw _),∅|15],∅|15],∅,∅|20].mono λ _ _ _ _ h=>aX h),%[%[10,av,%[min,(cU rfl),%[%[aB,%[9|0],%[0|2]|10],%[%[(bM hr.units),%[4|0],%[abs,bC,%[%[8|0]|1]|6],%[0|2],⟨by rfl,by rfl,by rfl,by rfl⟩|41]|1]|1]|6]|4],%[%[(bM hr.units),%[4|0],%[abs,bC,%[%[8|0]|1]|6],%[aB,%[(bM hr.units),%[4|0],%[abs,bC,%[%[8|0]|1]|6],%[0|2],⟨by rfl,by rfl,by rfl,by rfl⟩|41],%[10|0]|10],rfl|40],%[%[%[PySem.F.plainAttrs_list,PySem.F.slot_list_append,PySem.F.type_list_append,dQ,%[7|0],%[(@ic _ _ _ _ _ _ _ _ %[Fz,%[8|0],%[0|2],(ae _)|14] %[10|0] %[aB,%[aB,%[9|0],%[0|2]|10],%[10|0]|10])|1],∅,∅,∅,∅,∅|42],∅|36]|11]|9]|9],(by intros;rfl)|30],%[%[11,av,%[len,aA,%[%[%[0|0],rfl|29]|1]|6]|4],%[%[%[%[(@aW _ _ _ _),%[%[jn,∅,T.z_tuple,nofun,%[%[BK,%[7|0],(@fO _),(@fN _ _ _ %[11|0])|43]|1],⋯,⋯,∅,∅|38],%[%[jn,∅,T.z_tuple,nofun,%[%[BK,%[7|0],(@fN _ _ _ %[11|0]),(@fO _)|43]|1],⋯,⋯,∅,∅|38]|1]|1]|1]|17]|13]|11]|9]|9]|9]|9]|9],?_⟩;rw [show aE ["one", "other", "terms", "numbers", "left", "term", "number", "place", "pace", "size", "taken", "many"] [.ref u,.ref v,.ref p,.ref q]=[some (.ref u),some (.ref v),some (.ref p),some (.ref q),none,none,none,none,none,none,none,none] from rfl];clear G_pulls;have haxl:ax.length=A.length:=by rw [alA.1];unfold axL;rw [length_map]
  have htl:ts.length=zs.length:=al.1;exists k;exists hnd;exists al;exists haxl;exists htl;exists hxl;ac_rfl;intro d H1 hd1 e1 h1;have hp1:=e1.at hp;have hq1:=e1.at hq;have hd0:=hd1;clear hd1;ac_rfl;refine vS (ka:=false) (kb:=false) (xs:=ts) (ys:=xs.map V.int) (λ i σ H'=>∃ (kvs:List (Key × V)) (v5 v6:Option V),σ=[some (.ref u),some (.ref v),some (.ref p),some (.ref q),some (.ref d),v5,v6,none,none,none,none,none]/\Ext H H'/\H' d=some (.dK kvs)/\kvs.length<=i/\DL kvs (cJ (zs.take i) (xs.take i))) ⟨[],none,none,rfl,e1,h1,MG _,DL.nil⟩ (λ i σ H' ⟨_,_,_,_,e,_⟩=>⟨e.at hp,e.at hq⟩) ?_ ?_
  ·rintro i x y w' _ H2 H3 hx hy ⟨kvs,v5,v6,rfl,e2,h2,hkl,dl⟩ hw e3 h3;have hiz:i < zs.length:=by have:=(MB.mp hx).1;have:=htl ();omega
   have hzi:zs[i]? = some zs[i]:=Mx hiz;obtain⟨tq,rfl,htq⟩:=(al ()).2 i zs[i] x hzi hx;rw [MZ] at hy;obtain⟨n,hn,rfl⟩:=M4.mp hy;have hz1:zs.take (i+1)=zs.take i++[zs[i]]:=by rw [OC,hzi];rfl
   have hx1:xs.take (i+1)=xs.take i++[n]:=by rw [OC,hn];rfl
   have hnew:∀ y∈zs.take i,¬ y.1=zs[i].1:=λ y hy e=>by
    obtain⟨j,hj⟩:=Ox.mp hy;have hjl:j < i:=by have:=(MB.mp hj).1;rw [NP] at this;omega
    rw [List.getElem?_take_of_lt hjl] at hj;have hne:=List.pairwise_iff_getElem.mp (hnd ()) j i (by rw [MK];omega) (by rw [MK];omega) hjl;rw [List.getElem_map,List.getElem_map] at hne;have hj':zs[j]' %[0|8]=y:=by have:=MB.mp hj;exact this.2
    exact hne (by rw [hj'];exact e)
   have hls:=mX (z:=zs[i]) (x:=n) (zs:=zs.take i) (xs:=xs.take i) (by rw [NP,NP,hxl ()]) hnew;rw [←hz1,←hx1] at hls;have dl':=dl.put zs[i].1 (n - zs[i].2.1);rw [←hls] at dl';have e03:=e2.trans e3;have ht3:=e03.at htq;have h2_3:=e3.at h2;have hkl':=qV kvs (Sum.inl zs[i].1:Key) (.int (n - zs[i].2.1));have lk:kvs.length < sizeLine:=gT %[0|8];generalize zs[i]=z at *;generalize cJ (zs.take (i+1)) (xs.take (i+1))=L1 at *;exists dl';clear hx hy hzi hn hz1 hx1 hnew hls dl htq h2 k e2 e3 hp1 hq1 h1 e1;simp! only [↓aN];refine gQ (k:=.inl z.1) h2_3 lk ?_;exact⟨_,_,_,rfl,e03.put hd0,aj,by omega,dl' ()⟩
  ·rintro _ H2 ⟨kvs,v5,v6,rfl,e2,h2,hkl,dl⟩;have hmn:min ts.length (xs.map V.int).length=zs.length:=by rw [MK,htl (),hxl ()];exact Nat.min_self _
   rw [hmn,take_length,take_of_length_le (by rw [hxl ()];exact Nat.le_refl _)] at dl;rw [hmn] at hkl;have hPl:(ao A B).length=A.length+B.length:=by unfold ao;rw [length_append,length_map,length_map]
   clear hp1 hq1 h1 e1 hmn hnd al;ac_rfl;intro pl H3 hpl e3 h3;have e03:=e2.trans e3;have h2_3:=e3.at h2;have hpl0:H pl=none:=e2.free hpl;have ndp:d ≠ pl:=λ z=>by rw [z,hpl] at h2;cases h2
   clear hpl h2 e3;ac_rfl;rw [m8];refine⟨r1,r2,f1,f2,A,B,vu.ext e03,vv.ext e03,hA,hB,λ r H4 hr4 e4 t4=>?_⟩;obtain⟨ys,hy4,aly⟩:=t4;have e04:=e03.trans e4;have h2_4:=e4.at h2_3;have h3_4:=e4.at h3;have nrd:r ≠ d:=λ z=>by rw [z,h2_3] at hr4;cases hr4
   have nrp:r ≠ pl:=λ z=>by rw [z,h3] at hr4;cases hr4
   have hyl:ys.length=(ao A B).length:=aly.1;generalize ao A B=P' at *;generalize cJ zs xs=L0 at *;exists aly;exists hyl;exists hPl;exists dl;clear hr4 h2_3 h3 e4;ac_rfl;refine dB (xs:=ys) (λ i σ H'=>∃ (kvs:List (Key × V)) (L:Int->Int) (ps:List Int) (v8 v9 v10:Option V),σ=[some (.ref u),some (.ref v),some (.ref p),some (.ref q),some (.ref d),v5,v6,some (.ref pl),v8,v9,v10,none]/\Ext H H'/\(∀ b o,b ≠ d->b ≠ pl->H4 b=some o->H' b=some o)/\H' d=some (.dK kvs)/\H' pl=some (.lst (ps.map V.int))/\kvs.length<=17+i/\ps.length=i/\DL kvs L/\fL L0 P'=ps++fL L (P'.drop i)) ⟨kvs,L0,[],none,none,none,rfl,e04,λ _ _ _ _ h=>h,h2_4,h3_4,by omega,rfl,dl (),rfl⟩ (λ i σ H' _ ⟨_,_,_,_,_,_,_,_,kp,_⟩=>kp r _ nrd nrp hy4) ?_ ?_
   ·rintro i y _ H5 hi ⟨kvs,L,ps,v8,v9,v10,rfl,e5,kp,h5d,h5p,hkl5,hps,dl5,hfill⟩;have hiP:i < P'.length:=by have:=(MB.mp hi).1;have:=hyl ();omega
    obtain⟨tq,rfl,htq⟩:=(aly ()).2 i P'[i] y (Mx hiP) hi;have ht5:=kp tq _ (λ e=>by rw [e,h2_4] at htq;cases htq) (λ e=>by rw [e,h3_4] at htq;cases htq) htq;rw [OP hiP] at hfill
    have hf2:fL L0 P'=(ps++[if 0<=P'[i].1 then tkF P'[i] L else P'[i].2 - 1 - tkF P'[i] L])++fL (sD L (ar P'[i].1) (L (ar P'[i].1) - tkF P'[i] L)) (P'.drop (i+1)):=by
     rw [hfill,Ov];rfl
    have hP16:=hPl ();have b1:=dl5 (ar P'[i].1);have dl6:=dl5.put (ar P'[i].1) (L (ar P'[i].1) - tkF P'[i] L);have hkl':=qV kvs (Sum.inl (ar P'[i].1):Key) (.int (L (ar P'[i].1) - tkF P'[i] L));have lk:kvs.length < sizeLine:=gT %[0|8];have lp:ps.length < sizeLine:=gT %[0|8]
    have habs:(if P'[i].1 < 0 then -P'[i].1 else P'[i].1)=ar P'[i].1:=by unfold ar;split<;>omega
    have htk:(if L (ar P'[i].1) < P'[i].2 - 1 then L (ar P'[i].1) else P'[i].2 - 1)=tkF P'[i] L:=rfl;generalize P'[i]=z at *;exists hf2;exists hps;exists dl6;clear hfill dl5 hi htq k hy4 h2_4 h3_4 e04 e03 e2 dl;simp! only [↓aN];refine fM h5d ?_;ac_rfl;refine iH (k:=.inl (ar z.1)) h5d ?_;rw [b1];ac_rfl;refine fM h5d ?_;ac_rfl;refine iH (k:=.inl (ar z.1)) h5d ?_;rw [b1];ac_rfl;refine gQ (k:=.inl (ar z.1)) h5d lk ?_;have h6d:upd H5 d (.dK (dI kvs (.inl (ar z.1)) (.int (L (ar z.1) - tkF z L)))) d=some (.dK (dI kvs (.inl (ar z.1)) (.int (L (ar z.1) - tkF z L)))):=aj;have h6p:upd H5 d (.dK (dI kvs (.inl (ar z.1)) (.int (L (ar z.1) - tkF z L)))) pl=some (.lst (ps.map V.int)):=by rw [ai (Nd ndp)];exact h5p
    have e06:Ext H (upd H5 d (.dK (dI kvs (.inl (ar z.1)) (.int (L (ar z.1) - tkF z L))))):=e5.put hd0;have kp6:∀ b o,b ≠ d->b ≠ pl->H4 b=some o->upd H5 d (.dK (dI kvs (.inl (ar z.1)) (.int (L (ar z.1) - tkF z L)))) b=some o:=λ b o x1 x2 h=>by rw [ai x1];exact kp b o x1 x2 h
    generalize upd H5 d (.dK (dI kvs (.inl (ar z.1)) (.int (L (ar z.1) - tkF z L))))=H6 at *;exists kp6;clear h5d h5p kp e5 ht5
    by_cases hz0:0<=z.1
    ·have hf3:=hf2 ();rw [MI hz0] at hf3;exists hf3;clear hf2;ac_rfl;exact⟨_,_,ps++[tkF z L],_,_,_,rfl,e06.put hpl0,λ b o x1 x2 h=>by rw [ai x2];exact kp6 () b o x1 x2 h,by rw [ai ndp];exact h6d,by rw [Om];rfl,by omega,by rw [ML,M8,hps ()],dl6 (),hf3 ()⟩
    ·have hf3:=hf2 ();rw [MH hz0] at hf3;exists hf3;clear hf2;ac_rfl;exact⟨_,_,ps++[z.2 - 1 - tkF z L],_,_,_,rfl,e06.put hpl0,λ b o x1 x2 h=>by rw [ai x2];exact kp6 () b o x1 x2 h,by rw [ai ndp];exact h6d,by rw [Om];rfl,by omega,by rw [ML,M8,hps ()],dl6 (),hf3 ()⟩
   ·rintro _ H5 ⟨kvs,L,ps,v8,v9,v10,rfl,e5,kp,h5d,h5p,hkl5,hps,dl5,hfill⟩;rw [hyl (),O1] at hfill;have hfe:fL L0 P'=ps:=by rw [hfill];show ps++[]=ps;rw [Oz]
    rw [hfe] at k;have hu5:=e5.at hu;have hax5:=e5.at hax;have ct:=IE (ps.map V.int) (A.length:Int) %[0|8];have cf:=AO (ps.map V.int) (A.length:Int) %[0|8];rw [Nv] at ct cf;have hal:(ax.length:Int)=(A.length:Int):=by rw [haxl ()]
    clear kp h5d hkl5 dl5 hfill hfe aly hy4 h2_4 h3_4;ac_rfl;intro q6 H6 _ e6 h6;clear hu5 hax5;have h5p6:=e6.at h5p;ac_rfl;intro q7 H7 _ e7 h7;have h5p7:=e7.at h5p6;ac_rfl;intro q8 H8 _ e8 h8;have h7_8:=e8.at h7;ac_rfl;intro q9 H9 _ e9 h9;have h7_9:=e9.at h7_8;ac_rfl;intro r10 H10 _ e10 h10;exact k () r10 q7 q9 H10 (e5.trans (e6.trans (e7.trans (e8.trans (e9.trans e10))))) h10 (by rw [e10.at h7_9,List.map_take]) (by rw [e10.at h9,List.map_drop])
theorem lr{n:Nat}(h:n<=200000):n<=sizeLine:=Nm h ⋯
theorem Ef{n:Nat}(h:n < 200000):n < sizeLine:=MN h ⋯
def CsV(H:Hp)(cA pA:Addr)(c:Bx)(y:V):Prop:=∃ a,y=.ref a/\a ≠ cA/\a ≠ pA/\cI H a c
def eM(H:Hp)(cA pA:Addr):List Bx->List V->Prop
 | [],cl=>cl=[]
 | c::st,cl=>∃ cl0 y,cl=cl0++[y]/\CsV H cA pA c y/\eM H cA pA st cl0
theorem CsV.ext{H H':Hp}{cA pA:Addr}{c:Bx}{y:V}(h:CsV H cA pA c y)(e:Ext H H'):CsV H' cA pA c y:=by
 obtain⟨a,h1,h2,h3,h4⟩:=h;exact⟨a,h1,h2,h3,ay h4 e⟩
theorem eM.ext{H H':Hp}{cA pA:Addr}(e:Ext H H'):∀ {st:List Bx}{cl:List V},eM H cA pA st cl->eM H' cA pA st cl
 | [],_,h=>h
 | _::_,_,⟨cl0,y,h1,h2,h3⟩=>⟨cl0,y,h1,h2.ext e,eM.ext e h3⟩
theorem CsV.upd{H:Hp}{cA pA b:Addr}{c:Bx}{y:V}{xs:List V}{o:HO}(h:CsV H cA pA c y)(hb:H b=some (.lst xs))(hb2:b=cA\/b=pA):CsV (upd H b o) cA pA c y:=by
 obtain⟨a,h1,h2,h3,ys,h4,al⟩:=h
 have hne:a ≠ b:=λ e=>by
  rcases hb2 with q|q
  ·exact h2 (e.trans q)
  ·exact h3 (e.trans q)
 exact⟨a,h1,h2,h3,ys,by rw [ai hne];exact h4,al.imp λ _ _ t=>axP.upd t hb⟩
theorem eM.upd{H:Hp}{cA pA b:Addr}{xs:List V}{o:HO}(hb:H b=some (.lst xs))(hb2:b=cA\/b=pA):∀ {st:List Bx}{cl:List V},eM H cA pA st cl->eM (upd H b o) cA pA st cl
 | [],_,h=>h
 | _::_,_,⟨cl0,y,h1,h2,h3⟩=>⟨cl0,y,h1,h2.upd hb hb2,eM.upd hb hb2 h3⟩
theorem eM.len{H:Hp}{cA pA:Addr}:∀ {st:List Bx}{cl:List V},eM H cA pA st cl->cl.length=st.length
 | [],_,h=>by have h':_=[]:=h;rw [h'];rfl
 | _::_,_,⟨cl0,y,h1,_,h3⟩=>by rw [h1,ML,eM.len h3];rfl
theorem wu(ks:List Int)(P:List (Int × Int)):(ag ks P).map (λ z=>z.1)=ks:=by
 unfold ag;rw [map_map];exact List.map_id ks
theorem Ar{zs:List Tm3}{c:Bx}{xs:List Int}(h:dJ zs c)(hx:InB c xs):InB (zs.map λ z=>z.2) xs:=by
 refine vQ hx (by rw [MK,h.len]) λ i hi=>?_;have hz:i < zs.length:=by rw [←h.len];exact hi
 have:=h.at hz
 have e:(zs.map λ z=>z.2).getD i default=(zs.getD i default).2:=by
  rw [MP,MP,MZ,Mx hz];rfl
 rw [e];exact⟨this.1,this.2.2⟩
theorem iu{zs:List Tm3}(h:cK zs):dJ zs (zs.map λ z=>z.2):=by
 refine dJ.of (by rw [MK]) λ i hi=>?_
 have e:(zs.map λ z=>z.2).getD i default=(zs.getD i default).2:=by
  rw [MP,MP,MZ,Mx hi];rfl
 have hm:zs.getD i default=zs[i]:=by rw [MP,Mx hi];rfl
 rw [e,hm];have:=(h.all _ (Nx hi)).2.2.1;exact⟨M5 _,by omega,M5 _⟩
def plF(ks:List Int)(P:List (Int × Int))(xs:List Int):List Int:=fL (cJ (ag ks P) xs) P
theorem yq.upd{H:Hp}{s:List V}{v:V}{b:Addr}{xs:List V}{o:HO}(h:yq H s v)(hb:H b=some (.lst xs)):yq (upd H b o) s v:=by
 obtain⟨r,h1,h2⟩:=h;exact⟨r,h1,by rw [ai (λ e=>by rw [e,hb] at h2;cases h2)];exact h2⟩
def oC(H:Hp)(pp:List (List V))(ys:List V):Prop:=Al (λ s y=>yq H s y) pp ys
theorem oC.ext{H H':Hp}{pp:List (List V)}{ys:List V}(h:oC H pp ys)(e:Ext H H'):oC H' pp ys:=Al.imp h λ _ _ t=>yq.ext t e
theorem oC.upd{H:Hp}{pp:List (List V)}{ys:List V}{b:Addr}{xs:List V}{o:HO}(h:oC H pp ys)(hb:H b=some (.lst xs)):oC (upd H b o) pp ys:=Al.imp h λ _ _ t=>yq.upd t hb
theorem oC.snoc{H:Hp}{pp:List (List V)}{ys:List V}{s:List V}{r:Addr}(h:oC H pp ys)(hr:H r=some (.tup s)):oC H (pp++[s]) (ys++[.ref r]):=iS h (Al.cons' ⟨r,rfl,hr⟩ Al.nil)
def km(H:Hp)(a:Addr)(pp:List (List V)):Prop:=∃ ys,H a=some (.lst ys)/\oC H pp ys
abbrev Out:=Option (Option (List Int) × List (List V))
structure g9(A B:List (Int × Int))(g most:Int)(ks:List Int)(o:Out):Prop where
 kok:oE ks (ao A B)
 out:mq (ag ks (ao A B)) g most.toNat [(ag ks (ao A B)).map λ z=>z.2] []=o
 sh:∀ xs pp,o=some (some xs,pp)->InP (ao A B) (plF ks (ao A B) xs)/\A6 (ao A B) (plF ks (ao A B) xs)=g
 ap:∀ pp,o=some (none,pp)->Rep (ag ks (ao A B)) g [(ag ks (ao A B)).map λ z=>z.2] pp []/\(pp.length:Int)<=most
def ShV(H0 H:Hp)(r:Addr)(n:Nat)(ks:List Int)(P:List (Int × Int)):Out->Prop
 | none=>H r=some (.tup [.str "open"])
 | some (some xs,_)=>∃ a1 a2,H r=some (.tup [.str "shared",.ref a1,.ref a2])/\H a1=some (.tup (((plF ks P xs).take n).map V.int))/\H a2=some (.tup (((plF ks P xs).drop n).map V.int))
 | some (none,pp)=>∃ a1,H0 a1=none/\H r=some (.tup [.str "apart",.ref a1])/\km H a1 pp
abbrev jZ(C:Addr)(u:Addr)(v:Addr)(m:Int)(H:Hp)(Q:VK)(E:XK):Prop:=∃ (room f1 f2:Int) (A B:List (Int × Int)),aJ C H u room f1 A/\aJ C H v room f2 B/\mn A/\mn B/\1<=m/\m<=100000/\(∀ ks,oE ks (ao A B)->cK (ag ks (ao A B)))/\∀ (ks:List Int) (o:Out) (r:Addr) (H':Hp),Ext H H'->g9 A B (f2 - f1) m ks o->ShV H H' r A.length ks (ao A B) o->Q (.ref r) H'
def kO(C:Addr):Sp:=λ vs H Q E=>∃ (u:Addr) (v:Addr) (m:Int),vs=[.ref u,.ref v,.int m]/\(jZ C u v m H Q E)
theorem ck(C:Addr)(u:Addr)(v:Addr)(m:Int)(H:Hp)(Q:VK)(E:XK):kO C [.ref u,.ref v,.int m] H Q E=(jZ C u v m H Q E):=qi (f:=λ (u:Addr) (v:Addr) (m:Int)=>[.ref u,.ref v,.int m]) (λ _ _ _ _ _ _ h=>by cases h;exact⟨rfl,rfl,rfl⟩) u v m
theorem tH(C:Addr){vs:List V}{H:Hp}{Q:VK}{E:XK}(h:kO C vs H Q E):vs.length=3:=ql h λ _ _ _=>rfl
theorem wF(T:Tx K mg t):bj P w K mg base CX0 5 t.a_shares t.d_shares ["one", "other", "most"] (kO t.a_View):=by
 have G_gathered:=%[jj|47];have G_is_whole:=%[cZ|47];have G_first_case:=%[gw|47];have G_end_of:=%[mS|47];have G_numbers_at_once:=%[dw|47];have G_places_by_numbers:=%[cH|47];have G_parting:=%[jR|47];have G_parted:=%[mR|47];refine T.F_shares.ok aF (λ vs H Q E h=>tH _ h) (λ cdv A' outer s H vs Q E hr h=>?_)
 ·obtain⟨u,v,most,rfl,room,f1,f2,A,B,vu,vv,hA,hB,m1,m2,sh,k⟩:=h;refine⟨_,%[%[3,aF,%[gathered,%[%[0|0],%[%[1|0]|1]|1]|3]|4],%[%[(PW.pt %[%[%[%[is_whole,%[%[2|0]|1]|3],(by intros;rfl)|24]|25],%[%[eo,%[2|0],%[0|2],(ae _)|14],%[%[dz,%[2|0],(@er _ _ (.int 100000) _ _ ∅ T.m_MOST_CASES.choose_spec ⟨_,rfl⟩ ⋯),(ae _)|14]|28]|22]|22]),%[(@ib _ _)|11],(@ah _)|16],%[%[4,aF,%[aH,%[3|0],%[0|2],(λ _ _=>rfl)|12]|4],%[%[5,aF,%[aH,%[3|0],%[0|2],(λ _ _=>rfl)|12]|4],%[%[6,aF,%[%[%[first_case,%[%[4|0]|1]|3]|1]|19]|4],%[%[7,aF,%[(@cF _)|19]|4],%[%[8,aF,%[0|2]|4],%[(@ia _ _ _ _ _ _ PassesOwn.leaving %[dz,%[len,aA,%[%[6|0]|1]|6],%[0|2],(ae _)|14] %[%[%[(bG hr.units),%[8|0],%[2|0],(ae _)|14],%[%[%[%[(@aW _ _ _ _)|1]|17]|13]|11],(@ah _)|16],%[%[8,aF,%[aD,%[8|0],%[0|2]|10]|4],%[%[9,aF,(@qw _ _ _ _ _ _ _ _ _ M6 O7 O6 u9 %[6|0] ∅ ∅)|4],%[%[10,aF,%[end_of,%[%[4|0],%[%[5|0],%[%[9|0]|1]|1]|1]|3]|4],%[%[%[qx,%[10|0],(@cR _ _ _),(ae _)|14],%[%[11,aF,%[numbers_at_once,%[%[4|0],%[%[5|0],%[%[9|0]|1]|1]|1]|3]|4],%[%[%[rh,%[11|0],(@cR _ _ _),(ae _)|14],%[%[%[places_by_numbers,%[%[0|0],%[%[1|0],%[%[4|0],%[%[11|0]|1]|1]|1]|1]|3]|13]|11],(@ah _)|16],%[%[10,aF,%[parting,%[%[4|0],%[%[5|0],%[%[9|0]|1]|1]|1]|3]|4],%[%[%[M6,PySem.F.slot_list_extend,PySem.F.type_list_extend,mV,%[6|0],%[%[parted,%[%[9|0],%[%[aH,%[10|0],%[0|2],(λ _ _=>rfl)|12],%[%[aH,%[10|0],%[0|2],(λ _ _=>rfl)|12]|1]|1]|1]|3]|1],∅,∅,∅,∅,∅|42],∅|36]|11]|9]|9]|9],(@ah _)|16],%[%[%[M6,NL,NK,dQ,%[7|0],%[%[10|0]|1],∅,∅,∅,∅,∅|42],∅|36]|11]|9]|9]|9]|9]|9]),%[%[%[%[(@aW _ _ _ _),%[%[7|0]|1]|1]|17]|13]|11]|9]|9]|9]|9]|9]|9]|9]|9],?_⟩;rw [show aE ["one", "other", "most", "found", "terms", "goal", "cases", "paper", "looked", "case", "step", "numbers"] [.ref u,.ref v,.int most]=[some (.ref u),some (.ref v),some (.int most),none,none,none,none,none,none,none,none,none] from rfl];clear G_gathered G_is_whole G_first_case G_end_of G_numbers_at_once G_places_by_numbers G_parting G_parted
  have hsz:∀ z∈ao A B,(1:Int)<=z.2:=λ z hz=>by
   unfold ao at hz
   rcases Nj.mp hz with hz|hz
   ·obtain⟨a,ha,rfl⟩:=M9.mp hz;exact(hA.2 a ha).1
   ·obtain⟨a,ha,rfl⟩:=M9.mp hz;exact(hB.2 a ha).1
  exists k;exists sh;exists hsz;ac_rfl;rw [rO];refine⟨room,f1,f2,A,B,vu,vv,hA,hB,λ ks l r0 H1 e1 hr1 t1 ko=>?_⟩;have ht:=sh () ks ko
  have hkz:∀ z∈ao A B,ar z.1=0\/ar z.1∈ks:=λ z hz=>by
   by_cases e:ar z.1=0
   ·exact .inl e
   ·exact .inr ((ko.mem _).mpr ⟨e,z,hz,rfl⟩)
  have hz1:∀ z∈ag ks (ao A B),(1:Int)<=z.1:=λ z hz=>(ht.all z hz).1.1;have hnd:((ag ks (ao A B)).map λ z=>z.1).Nodup:=by rw [wu];exact ko.nd
  have hfin:∀ xs pp,mq (ag ks (ao A B)) (f2 - f1) most.toNat [(ag ks (ao A B)).map λ z=>z.2] []=some (some xs,pp)->InB ((ag ks (ao A B)).map λ z=>z.2) xs->yr (ag ks (ao A B)) xs=f2 - f1->g9 A B (f2 - f1) most ks (some (some xs,pp)):=λ xs pp h1 h2 h3=>by
   obtain⟨i1,i2⟩:=Mb ko.nd (hsz ()) hkz h2;exact⟨ko,h1,(λ ys qq e=>by cases e;exact⟨i1,i2.trans h3⟩),λ qq e=>by cases e⟩
  have hfin0:∀ pp,mq (ag ks (ao A B)) (f2 - f1) most.toNat [(ag ks (ao A B)).map λ z=>z.2] []=some (none,pp)->Rep (ag ks (ao A B)) (f2 - f1) [(ag ks (ao A B)).map λ z=>z.2] pp []->(pp.length:Int)<=most->g9 A B (f2 - f1) most ks (some (none,pp)):=λ pp h1 h2 h3=>⟨ko,h1,(λ ys qq e=>by cases e),λ qq e=>by cases e;exact⟨h2,h3⟩⟩;have hfinO:mq (ag ks (ao A B)) (f2 - f1) most.toNat [(ag ks (ao A B)).map λ z=>z.2] []=none->g9 A B (f2 - f1) most ks none:=λ h1=>⟨ko,h1,(λ ys qq e=>by cases e),λ qq e=>by cases e⟩;have ini:StI (ag ks (ao A B)) (f2 - f1) ((ag ks (ao A B)).map λ z=>z.2) most [(ag ks (ao A B)).map λ z=>z.2] 0 []:=⟨λ c hc=>by rw [MV.mp hc];exact iu ht,by omega,rfl,by rw [M8];omega,rfl,by rw [Int.sub_zero]⟩;have hA8:=hA.1;have hB8:=hB.1;have hpf:∀ xs,fL (cJ (ag ks (ao A B)) xs) (ao A B)=plF ks (ao A B) xs:=λ _=>rfl;generalize ag ks (ao A B)=zs at *;have h17:=ht.len;exists ini;exists hz1;exists hnd;exists hfin;exists hfin0;exists hfinO;exists hpf;have hm1:¬ most < 1:=by omega
  have hm2:¬ 100000 < most:=by omega
  clear sh hsz hkz ko;simp! only [↓aR];rw [uf];refine⟨zs,t1,h17,λ c0 H2 e2 p2=>?_⟩;have hr2:=e2.at hr1;ac_rfl;intro cA H3 hcA e3 h3;have ncA:c0 ≠ cA:=λ z=>by obtain⟨_,hh,_⟩:=p2;rw [z,hcA] at hh;cases hh
  ac_rfl;intro pA H4 hpA e4 h4;have npA:c0 ≠ pA:=λ z=>by obtain⟨_,hh,_⟩:=p2;rw [z] at hh;rw [e3.at hh] at hpA;cases hpA
  have ncp:cA ≠ pA:=λ z=>by rw [z] at h3;rw [h3] at hpA;cases hpA
  have e14:=e2.trans (e3.trans e4);have hcA1:H1 cA=none:=e2.free hcA;have hpA1:H1 pA=none:=(e2.trans e3).free hpA;have h3_4:=e4.at h3;have stk0:eM H4 cA pA [zs.map λ z=>z.2] [.ref c0]:=⟨[],.ref c0,rfl,⟨c0,rfl,ncA,npA,ay p2 (e3.trans e4)⟩,rfl⟩;exists stk0;clear hcA hpA p2 hr2 h3 e2 e3 e4;ac_rfl;refine oQ (by repeat' first|exact B2|exact vd|exact mo_nI|apply lq|apply mo_unN|exact qA|exact Jr|exact qB|exact mo_rI|exact mo_rIsN|exact mo_rNotN|exact va|exact mo_qIx|exact vc|exact pG|apply kF|apply mo_tB|apply mo_not|apply mo_and|apply mo_or|apply B3|apply mo_un|apply pH|apply mo_qLst|apply B4) (λ mm σ H'=>∃ (st:List Bx) (cl pl:List V) (pp:List (List V)) (lk:Int) (v9 v10 v11:Option V),σ=[some (.ref u),some (.ref v),some (.int most),some (.ref r0),some (.ref l),some (.int (f2 - f1)),some (.ref cA),some (.ref pA),some (.int lk),v9,v10,v11]/\mm=(most - lk).toNat/\Ext H1 H'/\H' cA=some (.lst cl)/\H' pA=some (.lst pl)/\oC H' pp pl/\eM H' cA pA st cl/\StI zs (f2 - f1) (zs.map λ z=>z.2) most st lk pp) _ ⟨[zs.map λ z=>z.2],[.ref c0],[],[],0,none,none,none,rfl,rfl,e14,h3_4,h4,Al.nil,stk0 (),ini ()⟩ ?_;rintro mm _ H5 ⟨st,cl,pl,pp,lk,v9,v10,v11,rfl,rfl,e5,h5c,h5p,hpl,stk,hI⟩
  cases st with
  | nil=>
   have hcl:cl=[]:=stk;subst hcl;obtain⟨q1,q2,q3⟩:=hI.done;have hres:=hfin0 () pp q1 q2 q3;exists hres;exists hpl;have hpA0:H pA=none:=e1.free hpA1;clear hI q1 q2 q3 hfin hfin0 hfinO stk ini stk0;ac_rfl;intro r6 H6 _ e6 h6;exact k () ks (some (none,pp)) r6 H6 (e1.trans (e5.trans e6)) (hres ()) ⟨pA,hpA0,h6,_,e6.at h5p,(hpl ()).ext e6⟩
  | cons c st=>
   obtain⟨cl0,y,rfl,hcy,stk'⟩:=stk;obtain⟨hc,hopen,hstep⟩:=hI.step (hz1 ());obtain⟨a,rfl,nac,nap,pa⟩:=hcy;have hcl0:=stk'.len;have hlk:=hI.lk;have hsl:=hI.stl;rw [Nc] at hsl;have hplk:pl.length < sizeLine:=Ef (by have:=hI.len;have:=hpl.1;omega);have hext:cl0.length+2<=sizeLine:=lr %[0|8]
   by_cases hlkm:lk=most
   ·have hres:=hfinO () (hopen hlkm);have hlen0:0 < ((cl0++[V.ref a]).length:Int):=by rw [ML,M8];omega
    exists hres;exists hpl;generalize cl0++[V.ref a]=cl at *;clear hI hopen hstep hfin hfin0 hfinO ini stk0 stk';ac_rfl;intro r6 H6 _ e6 h6;exact k () ks none r6 H6 (e1.trans (e5.trans e6)) (hres ()) h6
   obtain⟨hend,hgo⟩:=hstep hlkm;have hdec:(most - (lk+1)).toNat < (most - lk).toNat:=by omega
   obtain⟨cl,hcl⟩:∃ cl,cl0++[V.ref a]=cl:=⟨_,rfl⟩;have hlen:0 < (cl.length:Int):=by rw [←hcl,ML,M8];omega
   have hlast:cl[cl.length - 1]? = some (.ref a):=by rw [←hcl,ML,M8,Nat.add_sub_cancel,Ng (MG _),Nat.sub_self];rfl
   have hdrop:cl.dropLast=cl0:=by rw [←hcl,List.dropLast_concat]
   rw [hcl] at h5c;have cs6:=CsV.upd (o:=.lst cl0) (c:=c) (y:=.ref a) ⟨a,rfl,nac,nap,pa⟩ h5c (.inl rfl);have st6:=eM.upd (o:=.lst cl0) h5c (.inl rfl) stk';have e6:Ext H1 (upd H5 cA (.lst cl0)):=e5.put hcA1;have h6c:upd H5 cA (.lst cl0) cA=some (.lst cl0):=aj;have h6p:upd H5 cA (.lst cl0) pA=some (.lst pl):=by rw [ai (Nd ncp)];exact h5p
   have pl6:oC (upd H5 cA (.lst cl0)) pp pl:=hpl.upd h5c;exists pl6;exists hend;exists hgo;exists hI;exists hdec;exists hcl0;exists st6;clear stk' pa hcl h3_4 h4 stk0 ini e14 hfin0 hpl hfinO hopen hstep;ac_rfl;generalize upd H5 cA (.lst cl0)=H6 at *;clear h5c h5p e5 hlen hlast hdrop;obtain⟨a',ha',_,_,pa6⟩:=cs6;cases ha';rw [yg];refine⟨zs,c,cu t1 e6,pa6,ht,hc,λ v7 H7 e7 hv7=>?_⟩;have e17:=e6.trans e7;have h7c:=e7.at h6c;have h7p:=e7.at h6p;have st7:=λ (_:Unit)=>(st6 ()).ext e7;have pa7:=ay pa6 e7;have pl7:=λ (_:Unit)=>(pl6 ()).ext e7
   cases hee:oB zs c (f2 - f1) with
   | some ss=>
    rw [hee] at hv7;obtain⟨r7,rfl,hr7⟩:=hv7;have hI':=λ (_:Unit)=>hend () ss hee;have plN:=λ (_:Unit)=>oC.upd (o:=.lst (pl++[.ref r7])) ((pl7 ()).snoc hr7) h7p;clear hend hgo h6c h6p st6 e6 pa6 hee k pl6 pl7;ac_rfl;exact⟨(most - (lk+1)).toNat,hdec (),st,cl0,pl++[.ref r7],_,lk+1,_,_,_,rfl,rfl,e17.put hpA1,(by first|rfl|(rw [ai ncp];exact h7c)),(by first|rfl|exact aj),plN (),eM.upd h7p (.inr rfl) (st7 ()),hI' ()⟩
   | none=>
    rw [hee] at hv7;have hv7':v7=.non:=hv7;subst hv7';obtain⟨hg1,hg2⟩:=hgo () hee;exists hg1;exists hg2;clear hend hgo h6c h6p st6 e6 pa6 hee pl6;ac_rfl;rw [EG];refine⟨zs,c,cu t1 e17,pa7,ht,hc,λ v8 H8 e8 hv8=>?_⟩;have e18:=e17.trans e8;have h8c:=e8.at h7c;have h8p:=e8.at h7p;have st8:=λ (_:Unit)=>(st7 ()).ext e8;have pl8:=λ (_:Unit)=>(pl7 ()).ext e8;have pa8:=ay pa7 e8;clear h7c h7p st7 pa7 pl7
    cases hna:oz zs (f2 - f1) c with
    | some xs=>
     rw [hna] at hv8;obtain⟨r8,rfl,hr8⟩:=hv8;obtain⟨q1,q2,q3⟩:=hg1 () xs hna;have hin:=Ar hc q2;have hres:=hfin () xs pp q1 hin q3;have hxl:xs.length=zs.length:=by rw [hin.len,MK]
     exists hres;exists hxl;clear hg1 hg2 hna q1 q2 q3 hin hfin pl8;ac_rfl;rw [yh];refine⟨room,room,f1,f2,A,B,zs,xs,vu.ext (e1.trans e18),vv.ext (e1.trans e18),hA8,hB8,cu t1 e18,h17,hnd (),hr8,hxl (),λ r9 a1 a2 H9 e9 w1 w2 w3=>?_⟩;rw [hpf ()] at w2 w3;have k':=k () ks (some (some xs,pp)) r9 H9 (e1.trans (e18.trans e9)) (hres ()) ⟨a1,a2,w1,w2,w3⟩;clear k;ac_rfl
    | none=>
     rw [hna] at hv8;have hv8':v8=.non:=hv8;subst hv8';obtain⟨q,hq1,hq2,hI'⟩:=hg2 () hna;exists hI';have hqc:q.1 < c.length:=by rw [hc.len];exact hq2
     have hc17:c.length<=17:=by rw [hc.len];exact h17
     clear hg1 hg2 hna hfin k;ac_rfl;rw [AW];refine⟨zs,c,q,cu t1 e18,pa8,ht,hc,hq1,hq2,λ r9 H9 e9 h9=>?_⟩;have e19:=e18.trans e9;have h9c:=e9.at h8c;have h9p:=e9.at h8p;have st9:=λ (_:Unit)=>(st8 ()).ext e9;have pl9:=λ (_:Unit)=>((pl8 ()).ext e9).snoc h9;have pa9:=ay pa8 e9;clear h8c h8p st8 pa8 pl8;ac_rfl;rw [ua];refine⟨c,q.1,rfl,pa9,hqc,hc17,λ r10 a1 a2 H10 n1 n2 e10 h10 p1 p2=>?_⟩;have e110:=e19.trans e10;have h10c:=e10.at h9c;have h10p:=e10.at h9p;have st10:=(st9 ()).ext e10;have pl11:=λ (_:Unit)=>oC.upd (o:=.lst (cl0++[.ref a1,.ref a2])) ((pl9 ()).ext e10) h10c;have m1c:a1 ≠ cA:=λ z=>by rw [z,h9c] at n1;cases n1
     have m1p:a1 ≠ pA:=λ z=>by rw [z,h9p] at n1;cases n1
     have m2c:a2 ≠ cA:=λ z=>by rw [z,h9c] at n2;cases n2
     have m2p:a2 ≠ pA:=λ z=>by rw [z,h9p] at n2;cases n2
     have stN:eM H10 cA pA (loC c q.1 (bT c q)::upC c q.1 (bT c q)::st) (cl0++[.ref a1,.ref a2]):=⟨cl0++[.ref a1],.ref a2,by rw [Ov];rfl,⟨a2,rfl,m2c,m2p,p2⟩,cl0,.ref a1,rfl,⟨a1,rfl,m1c,m1p,p1⟩,st10⟩;have stM:=eM.upd (o:=.lst (cl0++[.ref a1,.ref a2])) h10c (.inl rfl) stN;have h11p:upd H10 cA (.lst (cl0++[.ref a1,.ref a2])) pA=some (.lst pl):=by rw [ai (Nd ncp)];exact h10p
     have h11c:upd H10 cA (.lst (cl0++[.ref a1,.ref a2])) cA=some (.lst (cl0++[.ref a1,.ref a2])):=aj;have e111:Ext H1 (upd H10 cA (.lst (cl0++[.ref a1,.ref a2]))):=e110.put hcA1;exists stM;clear h9c h9p st9 pa9 n1 n2 st10 stN p1 p2 h10p pl9;ac_rfl;generalize upd H10 cA (.lst (cl0++[.ref a1,.ref a2]))=H11 at *;clear h10c;ac_rfl;exact⟨_,hdec (),_,_,pl++[.ref r9],_,lk+1,_,_,_,rfl,rfl,e111.put hpA1,(by first|rfl|(rw [ai ncp];exact h11c)),(by first|rfl|exact aj),oC.upd (pl11 ()) h11p,eM.upd h11p (.inr rfl) (stM ()),hI' ()⟩
theorem Fun.x{K:W.Frag}{x qual:Str}{st:Stmt}{f:Addr}{fd:FuncData}(F:Fun K x qual st f fd):Fb K x qual st f fd:=by
 obtain⟨oc,od,kV,doc,pm,an,cdv,ct,osl,e,lk,hcd⟩:=F.ex;exact⟨⟨oc,od,.none,kV,doc,pm,an,cdv,ct,osl,e,lk,hcd⟩,F.kp⟩
abbrev j0(C cN:Addr)(u:Addr)(v:Addr)(H:Hp)(Q:VK)(E:XK):Prop:=∃ (r1 r2 f1 f2:Int) (A B:List (Int × Int)),aJ C H u r1 f1 A/\aJ C H v r2 f2 B/\(r1=r2->Q .non H)/\(r1 ≠ r2->∀ H',Ext H H'->E (.ref cN) none H')
def kR(C cN:Addr):Sp:=λ vs H Q E=>∃ (u:Addr) (v:Addr),vs=[.ref u,.ref v]/\(j0 C cN u v H Q E)
theorem t7(C cN:Addr)(u:Addr)(v:Addr)(H:Hp)(Q:VK)(E:XK):kR C cN [.ref u,.ref v] H Q E=(j0 C cN u v H Q E):=qj (f:=λ (u:Addr) (v:Addr)=>[.ref u,.ref v]) (λ _ _ _ _ h=>by cases h;exact⟨rfl,rfl⟩) u v
theorem tI(C cN:Addr){vs:List V}{H:Hp}{Q:VK}{E:XK}(h:kR C cN vs H Q E):vs.length=2:=qm h λ _ _=>rfl
theorem hU(T:Tx K mg t):bj P w K mg base (CX1 P  w) 1 t.a_refuse_rooms t.d_refuse_rooms ["one", "other"] (kR t.a_View t.a_NoPair):=by
 refine(Fun.x T.F_refuse_rooms).ok fE (λ vs H Q E h=>tI _ _ h) (λ c A o s H vs Q E hr h=>?_)
 ·obtain⟨u,v,rfl,ra,rb,f1,f2,A,B,vu,vv,kQ,kE⟩:=h;obtain⟨dx,D,hu,_⟩:=vu.ob;obtain⟨dy,D2,hv,_⟩:=vv.ob;have c1:=T.cl_View;have c4:=T.na_View_room;have g1:=dS ra f1 D;have g2:=dS rb f2 D2;refine⟨_,%[%[%[(bN hr.units),%[%[0|0],rfl|29],%[%[1|0],rfl|29],(ae _)|14],%[(@qZ _ _ _ _ _ _ _ _ _ _ rfl ∅ T.m_NoPair ⟨T.o_NoPair⟩ (λ σ=>jP) %[(@aW _ _ _ _)|1] ∅ ∅ ⋯)|11],(@ah _)|16]|11],?_⟩;rw [show aE ["one", "other"] [.ref u,.ref v]=[some (.ref u),some (.ref v)] from rfl]
  by_cases he:ra=rb
  ·subst he;have k':=kQ rfl;clear kQ kE;ac_rfl
  ·have k':=kE he H (Ext.refl _);clear kQ kE;ac_rfl
theorem bj.up{P:Program}{w:World}{K:W.Frag}{mg:Str->Option Value}{base:Heap}{CX:CXT}{k:Nat}{f:Addr}{fd:FuncData}{ps:List Str}{sp:Sp}(F:bj P w K mg base CX0 k f fd ps sp):bj P w K mg base CX k f fd ps sp:=
 ⟨F.len,λ A outer s H args us vs Q E hr he hb hv hs=>N6 (F.run A outer s H args us vs Q E hr he hb hv hs) λ r s' h=>by
  cases r with
  | error e=>exact h.elim
  | ok c=>cases c<;>exact h⟩
theorem bj.both{P:Program}{w:World}{K:W.Frag}{mg:Str->Option Value}{base:Heap}{CX:CXT}{k:Nat}{f:Addr}{fd:FuncData}{ps:List Str}{sp sp' sp2:Sp}(F:bj P w K mg base CX k f fd ps sp)(F':bj P w K mg base CX k f fd ps sp')(h:∀ vs H Q E,sp2 vs H Q E->sp vs H Q E\/sp' vs H Q E):bj P w K mg base CX k f fd ps sp2:=
 ⟨λ vs H Q E q=>(h _ _ _ _ q).elim (F.len vs H Q E) (F'.len vs H Q E),λ A outer s H args us vs Q E hr he hb hv hs=>(h _ _ _ _ hs).elim (F.run A outer s H args us vs Q E hr he hb hv) (F'.run A outer s H args us vs Q E hr he hb hv)⟩
abbrev yn(C cN:Addr)(u:Addr)(v:Addr)(H:Hp)(Q:VK)(E:XK):Prop:=∃ (r1 r2 f1 f2:Int) (A B:List (Int × Int)),aJ C H u r1 f1 A/\aJ C H v r2 f2 B/\r1 ≠ r2/\∀ H',Ext H H'->E (.ref cN) none H'
def vx(C cN:Addr):Sp:=λ vs H Q E=>∃ (u:Addr) (v:Addr),vs=[.ref u,.ref v]/\(yn C cN u v H Q E)
theorem xu(C cN:Addr){vs:List V}{H:Hp}{Q:VK}{E:XK}(h:vx C cN vs H Q E):vs.length=2:=qm h λ _ _=>rfl
theorem nX(T:Tx K mg t):bj P w K mg base (CX1 P  w) 2 t.a_gathered t.d_gathered ["one", "other"] (vx t.a_View t.a_NoPair):=by
 have G_refuse_rooms:=%[hU|47];have G_pulls:=%[lj|47];refine(Fun.x T.F_gathered).ok aG (λ vs H Q E h=>xu _ _ h) (λ cdv A' outer s H vs Q E hr h=>?_)
 ·obtain⟨u,v,rfl,ra,rb,f1,f2,A,B,vu,vv,hne,k⟩:=h;refine⟨_,%[%[(@kD _ _ _ _ _ _ _ _ _ _ _ _ _ _ _ _ G_refuse_rooms (hr.mono ⋯) ∅ T.m_refuse_rooms T.F_refuse_rooms.kp T.b_refuse_rooms .nil jQ %[%[0|0],%[%[1|0]|1]|1] ⋯ ∅ ∅),∅|36],%[(@gf _ _ (2) _ _ _ _ aG.nd rfl (Or.inr rfl) (@fi _ _) ∅ %[0|7]),%[(@gf _ _ (3) _ _ _ _ aG.nd rfl (Or.inr rfl) (@fi _ _) ∅ %[0|7]),%[%[PassesOwn.leaving,rfl,%[%[pulls,%[%[0|0],%[%[1|0]|1]|1]|3]|23],(%[(2),rfl,%[%[4,aG|5],%[%[5,aG|5],(@aw _),∅|15],∅|15],∅,∅|20].mono λ _ _ _ _ h=>aX h),%[%[%[(bN hr.units),%[4|0],%[0|2],(ae _)|14],%[%[6,aG,%[abs,bC,%[%[4|0]|1]|6]|4],%[%[7,aG,(@ic _ _ _ _ _ _ _ _ %[dz,%[4|0],%[0|2],(ae _)|14] %[aB,%[5|0],%[0|2]|10] %[aB,%[0|2],%[5|0]|10])|4],%[%[(bM hr.units),%[2|0],%[6|0],%[aD,%[(bM hr.units),%[2|0],%[6|0],%[0|2],⟨by rfl,by rfl,by rfl,by rfl⟩|41],%[min,(cU rfl),%[%[0|2],%[%[7|0]|1]|1]|6]|10],rfl|40],%[%[(bM hr.units),%[3|0],%[6|0],%[aD,%[(bM hr.units),%[3|0],%[6|0],%[0|2],⟨by rfl,by rfl,by rfl,by rfl⟩|41],%[max,(cV rfl),%[%[0|2],%[%[7|0]|1]|1]|6]|10],rfl|40]|11]|9]|9]|9],(@ah _)|16]|11],(by intros;rfl)|30],%[%[(["times", "one", "other", "lows", "highs", "pace", "size", "!times", "reach", "terms"]),(1),(8),_,aG.nd,rfl,(Or.inl rfl),(aK (aa dW) ["one", "other", "lows", "highs", "pace", "size", "times", "reach", "terms"] rfl rfl nofun),rfl,%[(@mO _ ("sorted") _ _ _ _ _ _ _ _ _ _ (jW rfl) ∅ T.z_sorted nofun %[%[2|0]|1] (@vF _ _ _ _ _ _ _ (@cO _ _ _ _) (@Bm _)) ⋯ ⋯ ∅ ∅ ∅ ∅ ∅)|23],(λ C s₀ H₀ ex pn=>%[(0),_,(show List.Nodup (["times", "one", "other", "lows", "highs", "pace", "size", "!times", "reach", "terms"]:List Str) from by decide +kernel),rfl,(Or.inl rfl),%[0|7]|18]),(λ C s₀ H₀ ex pn=>(@aM _)),(λ C s₀ H₀ ex pn=>%[%[%[0|0],%[(@iQ _ _ _ _ _ _ (bM hr.units) %[3|0] %[0|0] (λ _ _=>rfl)),%[(@iQ _ _ _ _ _ _ (bM hr.units) %[4|0] %[0|0] (λ _ _=>rfl))|1]|1]|1]|17]),∅,(by intros;rfl),%[0|7]|45],%[%[%[%[%[8|0],%[%[aB,%[%[1|0],rfl|29],%[%[0|0],rfl|29]|10]|1]|1]|17]|13]|11]|9]|9]|9]|9]|9],?_⟩;rw [show aE ["one", "other", "lows", "highs", "pace", "size", "times", "reach", "terms"] [.ref u,.ref v]=[some (.ref u),some (.ref v),none,none,none,none,none,none,none] from rfl];clear G_refuse_rooms G_pulls;ac_rfl;rw [t7];exact⟨ra,rb,f1,f2,A,B,vu,vv,λ e=>absurd e hne,λ _ H' e=>k H' e⟩
def vw(C cN:Addr):Sp:=λ vs H Q E=>∃ (u:Addr) (v:Addr),vs=[.ref u,.ref v]/\((mB C [.ref u,.ref v] H Q E)\/∃ (r1 r2 f1 f2:Int) (A B:List (Int × Int)),aJ C H u r1 f1 A/\aJ C H v r2 f2 B/\r1 ≠ r2/\∀ H',Ext H H'->E (.ref cN) none H')
theorem yc(C cN:Addr)(u:Addr)(v:Addr)(H:Hp)(Q:VK)(E:XK):vw C cN [.ref u,.ref v] H Q E=((mB C [.ref u,.ref v] H Q E)\/∃ (r1 r2 f1 f2:Int) (A B:List (Int × Int)),aJ C H u r1 f1 A/\aJ C H v r2 f2 B/\r1 ≠ r2/\∀ H',Ext H H'->E (.ref cN) none H'):=qj (f:=λ (u:Addr) (v:Addr)=>[.ref u,.ref v]) (λ _ _ _ _ h=>by cases h;exact⟨rfl,rfl⟩) u v
theorem nW(T:Tx K mg t):bj P w K mg base (CX1 P  w) 2 t.a_gathered t.d_gathered ["one", "other"] (vw t.a_View t.a_NoPair):=by
 refine bj.both (bj.up (jj (P:=P) (w:=w) (base:=base) T)) (nX (P:=P) (w:=w) (base:=base) T) λ vs H Q E h=>?_;obtain⟨u,v,rfl,h⟩:=h
 rcases h with h|h
 ·exact .inl h
 ·exact .inr ⟨u,v,rfl,h⟩
def E1(H:Hp):V->Prop
 | .int i=>i < 1\/100000 < i
 | .non=>True
 | .bl _=>True
 | .str _=>True
 | .ref p=>∃ xs,H p=some (.lst xs)\/H p=some (.tup xs)
 | _=>False
abbrev jr(C cP cM:Addr)(u:Addr)(v:Addr)(m:V)(H:Hp)(Q:VK)(E:XK):Prop:=∃ (r1 r2 f1 f2:Int) (A B:List (Int × Int)),aJ C H u r1 f1 A/\aJ C H v r2 f2 B/\mn A/\mn B/\(r1 ≠ r2->∀ H',Ext H H'->E (.ref cP) none H')/\(r1=r2->E1 H m/\∀ H',Ext H H'->E (.ref cM) none H')
def iU(C cP cM:Addr):Sp:=λ vs H Q E=>∃ (u:Addr) (v:Addr) (m:V),vs=[.ref u,.ref v,m]/\(jr C cP cM u v m H Q E)
theorem qc(C cP cM:Addr)(u:Addr)(v:Addr)(m:V)(H:Hp)(Q:VK)(E:XK):iU C cP cM [.ref u,.ref v,m] H Q E=(jr C cP cM u v m H Q E):=qi (f:=λ (u:Addr) (v:Addr) (m:V)=>[.ref u,.ref v,m]) (λ _ _ _ _ _ _ h=>by cases h;exact⟨rfl,rfl,rfl⟩) u v m
theorem p5(C cP cM:Addr){vs:List V}{H:Hp}{Q:VK}{E:XK}(h:iU C cP cM vs H Q E):vs.length=3:=ql h λ _ _ _=>rfl
theorem sS(T:Tx K mg t):bj P w K mg base (CX1 P  w) 5 t.a_shares t.d_shares ["one", "other", "most"] (iU t.a_View t.a_NoPair t.a_NoMost):=by
 have G_gathered:=%[nW|47];have G_is_whole:=%[cZ|47];have G_first_case:=%[gw|47];have G_end_of:=%[mS|47];have G_numbers_at_once:=%[dw|47];have G_places_by_numbers:=%[cH|47];have G_parting:=%[jR|47];have G_parted:=%[mR|47];refine T.F_shares.ok aF (λ vs H Q E h=>p5 _ _ _ h) (λ cdv A' outer s H vs Q E hr h=>?_)
 ·obtain⟨u,v,m,rfl,ra,rb,f1,f2,A,B,vu,vv,hA,hB,kP,kM⟩:=h;refine⟨_,%[%[3,aF,(@kD _ _ _ _ _ _ _ _ _ _ _ _ _ _ _ _ G_gathered (hr.mono ⋯) ∅ T.m_gathered T.F_gathered.kp T.b_gathered .nil jQ %[%[0|0],%[%[1|0]|1]|1] ⋯ ∅ ∅)|4],%[%[(PW.pt %[%[%[%[is_whole,%[%[2|0]|1]|3],(by intros;rfl)|24]|25],%[%[eo,%[2|0],%[0|2],(ae _)|14],%[%[dz,%[2|0],(@er _ _ (.int 100000) _ _ ∅ T.m_MOST_CASES.choose_spec ⟨_,rfl⟩ ⋯),(ae _)|14]|28]|22]|22]),%[(@qZ _ _ _ _ _ _ _ _ _ _ rfl ∅ T.m_NoMost ⟨T.o_NoMost⟩ (λ σ=>jP) %[(@aW _ _ _ _)|1] ∅ ∅ ⋯)|11],(@ah _)|16],%[%[4,aF,%[aH,%[3|0],%[0|2],(λ _ _=>rfl)|12]|4],%[%[5,aF,%[aH,%[3|0],%[0|2],(λ _ _=>rfl)|12]|4],%[%[6,aF,%[%[%[first_case,%[%[4|0]|1]|3]|1]|19]|4],%[%[7,aF,%[(@cF _)|19]|4],%[%[8,aF,%[0|2]|4],%[(@ia _ _ _ _ _ _ PassesOwn.leaving %[dz,%[len,aA,%[%[6|0]|1]|6],%[0|2],(ae _)|14] %[%[%[(bG hr.units),%[8|0],%[2|0],(ae _)|14],%[%[%[%[(@aW _ _ _ _)|1]|17]|13]|11],(@ah _)|16],%[%[8,aF,%[aD,%[8|0],%[0|2]|10]|4],%[%[9,aF,(@qw _ _ _ _ _ _ _ _ _ M6 O7 O6 u9 %[6|0] ∅ ∅)|4],%[%[10,aF,%[end_of,%[%[4|0],%[%[5|0],%[%[9|0]|1]|1]|1]|3]|4],%[%[%[qx,%[10|0],(@cR _ _ _),(ae _)|14],%[%[11,aF,%[numbers_at_once,%[%[4|0],%[%[5|0],%[%[9|0]|1]|1]|1]|3]|4],%[%[%[rh,%[11|0],(@cR _ _ _),(ae _)|14],%[%[%[places_by_numbers,%[%[0|0],%[%[1|0],%[%[4|0],%[%[11|0]|1]|1]|1]|1]|3]|13]|11],(@ah _)|16],%[%[10,aF,%[parting,%[%[4|0],%[%[5|0],%[%[9|0]|1]|1]|1]|3]|4],%[%[%[M6,PySem.F.slot_list_extend,PySem.F.type_list_extend,mV,%[6|0],%[%[parted,%[%[9|0],%[%[aH,%[10|0],%[0|2],(λ _ _=>rfl)|12],%[%[aH,%[10|0],%[0|2],(λ _ _=>rfl)|12]|1]|1]|1]|3]|1],∅,∅,∅,∅,∅|42],∅|36]|11]|9]|9]|9],(@ah _)|16],%[%[%[M6,NL,NK,dQ,%[7|0],%[%[10|0]|1],∅,∅,∅,∅,∅|42],∅|36]|11]|9]|9]|9]|9]|9]),%[%[%[%[(@aW _ _ _ _),%[%[7|0]|1]|1]|17]|13]|11]|9]|9]|9]|9]|9]|9]|9]|9],?_⟩;rw [show aE ["one", "other", "most", "found", "terms", "goal", "cases", "paper", "looked", "case", "step", "numbers"] [.ref u,.ref v,m]=[some (.ref u),some (.ref v),some (m),none,none,none,none,none,none,none,none,none] from rfl];clear G_gathered G_is_whole G_first_case G_end_of G_numbers_at_once G_places_by_numbers G_parting G_parted;exists kP;exists kM;ac_rfl;rw [yc]
  by_cases he:ra=rb
  ·subst he;obtain⟨hbad,kE⟩:=kM () rfl;refine .inl ?_;rw [rO];refine⟨ra,f1,f2,A,B,vu,vv,hA,hB,λ ks l r0 H1 e1 hr1 t1 ko=>?_⟩;have kE':=kE H1 e1;clear kP kM kE
   match m,hbad with
   | .int i,hbad=>
    rcases hbad with hb|hb
    ·simp! only [↓aR]
    ·have hb2:¬ i < 1:=by omega
     simp! only [↓aR]
   | .non,_=>simp! only [↓aR]
   | .bl b,_=>simp! only [↓aR]
   | .str z,_=>simp! only [↓aR]
   | .ref p,hbad=>
    obtain⟨xs,hp⟩:=hbad
    rcases hp with hp|hp
    ·have hp1:=e1.at hp;simp! only [↓aR]
    ·have hp1:=e1.at hp;simp! only [↓aR]
  ·exact .inr ⟨ra,rb,f1,f2,A,B,vu,vv,he,kP () he⟩
structure AxK(A:List (Int × Int)):Prop where
 len:A.length<=3
 sz:∀ a∈A,(1<=a.1/\a.1<=5)/\(-36<=a.2/\a.2<=36)
 prod:(A.foldr (λ a r=>a.1 * r) 1)<=24
theorem i9:∀ (A:List (Int × Int)) (b:Int × Int),((A++[b]).foldr (λ a r=>a.1 * r) 1)=(A.foldr (λ a r=>a.1 * r) 1) * b.1
 | [],b=>by show b.1 * 1=1 * b.1;omega
 | a::A,b=>by
  show a.1 * ((A++[b]).foldr (λ a r=>a.1 * r) 1)=a.1 * (A.foldr (λ a r=>a.1 * r) 1) * b.1
  rw [i9 A b,Int.mul_assoc]
theorem mL:∀ {A:List (Int × Int)},(∀ a∈A,(1:Int)<=a.1)->1<=(A.foldr (λ a r=>a.1 * r) 1)
 | [],_=>M5 _
 | a::A,h=>by
  have ih:=mL (A:=A) λ b hb=>h b (MD _ hb);have:=Pj (h a MF) ih ⋯ (by have:=h a MF;omega)
  show 1<=a.1 * _
  omega
abbrev nJ(K:PySem.W.Frag)(a:Addr)(ns:List Int)(p:Addr)(i:Int)(f:Int)(H:Hp)(Q:VK)(E:XK):Prop:=p=a/\SqL K H a (ns.map V.int)/\ns.length<=63/\0<=i/\i<=60/\1<=f/\f<=6/\∀ (A:List (Int × Int)) (r:Addr) (H':Hp),Ext H H'->cI H' r A->AxK A->Q (.ref r) H'
def ph(K:W.Frag)(a:Addr)(ns:List Int):Sp:=λ vs H Q E=>∃ (p:Addr) (i:Int) (f:Int),vs=[.ref p,.int i,.int f]/\(nJ K a ns p i f H Q E)
theorem nh(K:W.Frag)(a:Addr)(ns:List Int)(p:Addr)(i:Int)(f:Int)(H:Hp)(Q:VK)(E:XK):ph K a ns [.ref p,.int i,.int f] H Q E=(nJ K a ns p i f H Q E):=qi (f:=λ (p:Addr) (i:Int) (f:Int)=>[.ref p,.int i,.int f]) (λ _ _ _ _ _ _ h=>by cases h;exact⟨rfl,rfl,rfl⟩) p i f
theorem xt(K:W.Frag)(a:Addr)(ns:List Int){vs:List V}{H:Hp}{Q:VK}{E:XK}(h:ph K a ns vs H Q E):vs.length=3:=ql h λ _ _ _=>rfl
theorem nV(T:Tx K mg t)(a:Addr)(ns:List Int):bj P w K mg base CX0 2 t.a__law_axes t.d__law_axes ["_law_script", "_law_at", "_law_factor"] (ph K a ns):=by
 have G__law_draw:=%[cy|47] a ns;refine T.F__law_axes.ok ba (λ vs H Q E h=>xt _ _ _ h) (λ c A o s H vs Q E hr h=>?_)
 ·obtain⟨_,i0,f,rfl,rfl,hS,hl,i1,i2,f1,f2,kk⟩:=h;rename_i a;refine⟨_,%[%[3,ba,%[(@cF _)|19]|4],%[%[4,ba,%[0|2]|4],%[%[M7,rfl,(@dP _ _ _ _ _ _ ∅ T.z_range %[%[_law_draw,%[%[0|0],%[%[1|0],%[%[0|2]|1]|1]|1]|3]|1] ∅),%[5,ba|5],%[%[6,ba,%[_law_draw,%[%[0|0],%[%[aD,%[aD,%[1|0],%[0|2]|10],%[5|0]|10],%[%[fD,%[0|2],%[0|2]|10]|1]|1]|1]|3]|4],%[%[7,ba,%[aD,%[0|2],%[br,%[6|0],%[0|2]|10]|10]|4],%[%[%[dz,%[bO,%[4|0],%[7|0]|10],%[0|2],(ae _)|14],%[%[7,ba,%[0|2]|4]|11],(@ah _)|16],%[%[4,ba,%[bO,%[4|0],%[7|0]|10]|4],%[%[8,ba,%[bO,%[2|0],%[aB,%[br,%[cS,%[6|0],%[0|2]|10],%[0|2]|10],%[0|2]|10]|10]|4],%[%[%[(bG hr.units),%[br,%[cS,%[6|0],%[0|2]|10],%[0|2]|10],%[0|2],(ae _)|14],%[%[8,ba,%[aB,%[br,%[cS,%[6|0],%[0|2]|10],%[0|2]|10],%[0|2]|10]|4]|11],(@ah _)|16],%[%[%[M6,NL,NK,dQ,%[3|0],%[%[%[%[7|0],%[%[8|0]|1]|1]|17]|1],∅,∅,∅,∅,∅|42],∅|36]|11]|9]|9]|9]|9]|9]|9],(by intros;rfl)|30],%[%[%[3|0]|13]|11]|9]|9]|9],?_⟩;rw [show aE ["_law_script", "_law_at", "_law_factor", "_law_axes_here", "_law_count", "_law_k", "_law_cell_here", "_law_size", "_law_pace"] [.ref a,.int i0,.int f]=[some (.ref a),some (.int i0),some (.int f),none,none,none,none,none,none] from rfl];clear G__law_draw;exists kk;ac_rfl;intro r H1 hr1 e1 h1;have hS1:=e1.2 K a _ hS;have hr0:=hr1;clear hr1;ac_rfl;rw [aU];refine⟨hS1,hl,⟨by omega,by omega⟩,by decide,λ n n0 n1=>?_⟩;ac_rfl;refine⟨by omega,by omega,?_⟩;refine pL (λ j σ H'=>∃ (A:List (Int × Int)) (ys:List V) (v5 v6 v7 v8:Option V),σ=[some (.ref a),some (.int i0),some (.int f),some (.ref r),some (.int (A.foldr (λ a r=>a.1 * r) 1)),v5,v6,v7,v8]/\Ext H H'/\H' r=some (.lst ys)/\Al (λ z y=>axP z y H') A ys/\A.length=j/\(∀ a∈A,(1<=a.1/\a.1<=5)/\(-36<=a.2/\a.2<=36))/\(A.foldr (λ a r=>a.1 * r) 1)<=24) ⟨[],[],none,none,none,none,rfl,e1,h1,Al.nil,rfl,(λ a h=>by cases h),by decide⟩ ?_ ?_
  ·rintro j _ H2 hj ⟨A,ys,v5,v6,v7,v8,rfl,e2,h2,al,hAl,hsz,hpr⟩;have hj3:j < 3:=by have:j < n.toNat:=hj;omega
   have hS2:=e2.2 K a _ hS;have hyl:ys.length < sizeLine:=gT (by rw [al.1,hAl];omega);have hp1:=mL λ a ha=>(hsz a ha).1.1;exists al;exists hsz;exists hAl;have x5:∀ x:Int,0<=x % 5/\x % 5 < 5:=λ x=>by omega
   have fpos:∀ y:Int,-6<=y->y<=6->-36<=f * y/\f * y<=36:=λ y y1 y2=>by
    have a1:=Nb y2 (show 0<=f by omega);have a2:=Nb y1 (show 0<=f by omega);omega
   have fin:∀ (sz pc:Int) (t6:Addr) (H6:Hp),Ext H2 H6->H6 t6=some (.tup [.int sz,.int pc])->t6 ≠ r->(1<=sz/\sz<=5)->(-36<=pc/\pc<=36)->(A.foldr (λ a r=>a.1 * r) 1) * sz<=24->∃ (A':List (Int × Int)) (ys':List V),A'=A++[(sz,pc)]/\ys'=ys++[.ref t6]/\Ext H (upd H6 r (.lst (ys++[.ref t6])))/\Al (λ z y=>axP z y (upd H6 r (.lst (ys++[.ref t6])))) A' ys'/\A'.length=j+1/\(∀ a∈A',(1<=a.1/\a.1<=5)/\(-36<=a.2/\a.2<=36))/\(A'.foldr (λ a r=>a.1 * r) 1)=(A.foldr (λ a r=>a.1 * r) 1) * sz/\(A'.foldr (λ a r=>a.1 * r) 1)<=24:=λ sz pc t6 H6 e6 h6 ntr s1 s2 s3=>by
    refine⟨_,_,rfl,rfl,(e2.trans e6).put hr0,?_,by rw [ML,hAl (),M8],λ b hb=>?_,i9 _ _,by rw [i9];exact s3⟩
    ·refine iS ((al ()).imp λ _ _ t=>axP.upd (axP.ext t e6) (e6.at h2)) ⟨rfl,λ i z y hz hy=>?_⟩
     cases i with
     | zero=>simp at hz hy;subst hz;subst hy;exact⟨t6,rfl,by rw [ai ntr];exact h6⟩
     | succ i=>simp at hz
    ·rcases Nj.mp hb with hb|hb
     ·exact hsz () b hb
     ·rw [MV.mp hb];exact⟨s1,s2⟩
   obtain⟨cnt,hcnt⟩:∃ cnt,(A.foldr (λ a r=>a.1 * r) 1)=cnt:=⟨_,rfl⟩;rw [hcnt] at hpr hp1 fin ⊢;exists fin;exists fpos;clear hj kk h1 hS1 hcnt;simp! only [↓aN];rw [aU];refine⟨hS2,hl,⟨by omega,by omega⟩,by decide,λ x x0 x1=>?_⟩;have x5':=x5 x;have y13:-6<=x / 5 % 13 - 6/\x / 5 % 13 - 6<=6:=by omega
   have y41:-36<=x / 260 % 41 - 20/\x / 260 % 41 - 20<=36:=by omega
   have yf:=fpos () _ y13.1 y13.2;have cmf:iE f (x / 5 % 13 - 6):=.inl ⟨by omega,by omega⟩;have cm1:iE cnt (1+x % 5):=.inl ⟨by omega,by omega⟩;have cm2:iE cnt 1:=.inl ⟨by omega,by omega⟩;exists y41;exists yf;clear fpos x5 y13;have go:∀ (sz:Int),(sz=1+x % 5\/sz=1)->(1<=sz/\sz<=5):=λ sz h=>by omega
   exists go
   by_cases hb:24 < cnt * (1+x % 5)
   ·by_cases hq:x / 65 % 4=1
    ·ac_rfl;intro t6 H6 ht6 e6 h6;have h2_6:=e6.at h2;have ntr:t6 ≠ r:=λ z=>by rw [z,h2] at ht6;cases ht6
     obtain⟨A',ys',hA',hys',g1,g2,g3,g4,g5,g6⟩:=fin () (1) (x / 260 % 41 - 20) t6 H6 e6 h6 ntr (go () _ (.inr rfl)) (y41 ()) (by rw [OD];exact hpr);rw [hys'] at g2;exists g4;exists g2;clear ht6 fin go hb hq yf y41 h2;ac_rfl;exact⟨A',ys++[.ref t6],_,_,_,_,by rw [g5],g1,by first|rfl|exact aj,g2 (),g3,g4 (),g6⟩
    ·ac_rfl;intro t6 H6 ht6 e6 h6;have h2_6:=e6.at h2;have ntr:t6 ≠ r:=λ z=>by rw [z,h2] at ht6;cases ht6
     obtain⟨A',ys',hA',hys',g1,g2,g3,g4,g5,g6⟩:=fin () (1) (f * (x / 5 % 13 - 6)) t6 H6 e6 h6 ntr (go () _ (.inr rfl)) (yf ()) (by rw [OD];exact hpr);rw [hys'] at g2;exists g4;exists g2;clear ht6 fin go hb hq yf y41 h2;ac_rfl;exact⟨A',ys++[.ref t6],_,_,_,_,by rw [g5],g1,by first|rfl|exact aj,g2 (),g3,g4 (),g6⟩
   ·by_cases hq:x / 65 % 4=1
    ·ac_rfl;intro t6 H6 ht6 e6 h6;have h2_6:=e6.at h2;have ntr:t6 ≠ r:=λ z=>by rw [z,h2] at ht6;cases ht6
     obtain⟨A',ys',hA',hys',g1,g2,g3,g4,g5,g6⟩:=fin () (1+x % 5) (x / 260 % 41 - 20) t6 H6 e6 h6 ntr (go () _ (.inl rfl)) (y41 ()) %[0|8];rw [hys'] at g2;exists g4;exists g2;clear ht6 fin go hb hq yf y41 h2;ac_rfl;exact⟨A',ys++[.ref t6],_,_,_,_,by rw [g5],g1,by first|rfl|exact aj,g2 (),g3,g4 (),g6⟩
    ·ac_rfl;intro t6 H6 ht6 e6 h6;have h2_6:=e6.at h2;have ntr:t6 ≠ r:=λ z=>by rw [z,h2] at ht6;cases ht6
     obtain⟨A',ys',hA',hys',g1,g2,g3,g4,g5,g6⟩:=fin () (1+x % 5) (f * (x / 5 % 13 - 6)) t6 H6 e6 h6 ntr (go () _ (.inl rfl)) (yf ()) %[0|8];rw [hys'] at g2;exists g4;exists g2;clear ht6 fin go hb hq yf y41 h2;ac_rfl;exact⟨A',ys++[.ref t6],_,_,_,_,by rw [g5],g1,by first|rfl|exact aj,g2 (),g3,g4 (),g6⟩
  ·rintro _ H2 ⟨A,ys,v5,v6,v7,v8,rfl,e2,h2,al,hAl,hsz,hpr⟩;have k':=kk () A r H2 e2 ⟨ys,h2,al⟩ ⟨by rw [hAl];omega,hsz,hpr⟩;clear kk al hsz;ac_rfl
theorem Cj{K:W.Frag}{ka kb:Bool}{H:Hp}{α β:Type}{R1:α->V->Hp->Prop}{R2:β->V->Hp->Prop}(h1:∀ z y H H',R1 z y H->Ext H H'->R1 z y H')(h2:∀ z y H H',R2 z y H->Ext H H'->R2 z y H'){a b:Addr}{xs ys:List V}{zs:List α}{ws:List β}(ha:SqK ka H a xs)(hb:SqK kb H b ys)(al:Al (λ z y=>R1 z y H) zs xs)(bl:Al (λ z y=>R2 z y H) ws ys) :
  (∀ i z H',(zs.zip ws)[i]? = some z->Ext H H'->(Itz ka kb a b xs ys).go i H'/\∀ x H'',(Itz ka kb a b xs ys).yld i H' x H''->Ext H' H''/\ES R1 R2 z x H'')/\∀ H',Ext H H'->(Itz ka kb a b xs ys).stop (zs.zip ws).length H':=by
 have wk:=Ba (ka:=ka) (kb:=kb) ha hb;refine⟨λ i z H' hz e=>?_,λ H' e=>?_⟩
 ·obtain⟨i1,i2⟩:=MB.mp hz;rw [NJ] at i1;have hx:xs[i]? = some (xs[i]'(by rw [al.1];omega)):=Mx _;have hy:ys[i]? = some (ys[i]'(by rw [bl.1];omega)):=Mx _;have g1:=al.2 i zs[i] _ (Mx _) hx;have g2:=bl.2 i ws[i] _ (Mx _) hy;generalize (xs[i]'(by rw [al.1];omega))=x0 at hx g1;generalize (ys[i]'(by rw [bl.1];omega))=y0 at hy g2
  have hzz:(xs.zip ys)[i]? = some (x0,y0):=by
   rw [Nw];exact⟨hx,hy⟩
  obtain⟨go,yd⟩:=wk.1 i _ H' hzz e;refine⟨go,λ x H'' y=>?_⟩;obtain⟨e2,p,hp,hp2⟩:=yd x H'' y;have ez:z=(zs[i],ws[i]):=by rw [←i2,Py]
  subst ez;exact⟨e2,p,x0,y0,hp,hp2,h1 _ _ _ _ g1 (e.trans e2),h2 _ _ _ _ g2 (e.trans e2)⟩
 ·have:=wk.2 H' e
  rwa [show (zs.zip ws).length=(xs.zip ys).length by rw [NJ,NJ,al.1,bl.1]]
def iD:List (Int × Int)->List Int->Int
 | a::A,y::ys=>a.2 * y+iD A ys
 | _,_=>0
theorem rG:∀ (A:List (Int × Int)) (ys:List Int),((ys.zip A).map λ z=>z.1 * z.2.2).sum=iD A ys
 | [],[]=>rfl
 | [],_::_=>rfl
 | _::_,[]=>rfl
 | a::A,y::ys=>by
  rw [OK,Nf,PD,rG A ys]
  show y * a.2+_=a.2 * y+_
  rw [OM]
abbrev nH  (f:Int) (q:Addr) (p:Addr) (H:Hp) (Q:VK) (E:XK):Prop:=∃ (A:List (Int × Int)) (ys:List Int),cI H q A/\H p=some (.tup (ys.map V.int))/\A.length<=8/\(∀ a∈A,-100000000000000000<=a.2/\a.2<=100000000000000000)/\∀ H',Ext H H'->Q (.int (f+iD A ys)) H'
def pe  : Sp:=λ vs H Q E=>∃ (f:Int) (q:Addr) (p:Addr),vs=[.int f,.ref q,.ref p]/\(nH  f q p H Q E)
theorem nc  (f:Int) (q:Addr) (p:Addr) (H:Hp) (Q:VK) (E:XK):pe  [.int f,.ref q,.ref p] H Q E=(nH  f q p H Q E):=qi (f:=λ (f:Int) (q:Addr) (p:Addr)=>[.int f,.ref q,.ref p]) (λ _ _ _ _ _ _ h=>by cases h;exact⟨rfl,rfl,rfl⟩) f q p
theorem xr  {vs:List V}{H:Hp}{Q:VK}{E:XK}(h:pe  vs H Q E):vs.length=3:=ql h λ _ _ _=>rfl
theorem nS(T:Tx K mg t):bj P w K mg base CX0 1 t.a__law_cell t.d__law_cell ["_law_first", "_law_axes_here", "_law_place"] pe:=by
 refine T.F__law_cell.ok qh (λ vs H Q E h=>xr h) (λ cdv A' outer s H vs Q E hr h=>?_)
 ·obtain⟨f,q,p,rfl,A,ys,⟨ts,hq,al⟩,hp,h8,hb,k⟩:=h;refine⟨_,%[%[%[aD,%[0|0],%[sum,(bZ rfl),%[%[(["_law_at", "_law_axis", "_law_first", "_law_axes_here", "_law_place"]),(2),(aK (aa eA) ["_law_first", "_law_axes_here", "_law_place"] rfl rfl nofun),rfl,%[∅,T.z_zip,%[%[2|0],%[%[1|0]|1]|1],∅,∅|44],(λ C s₀ H₀ ex pn=>(%[(2),rfl,%[%[(0),_,(show List.Nodup (["_law_at", "_law_axis", "_law_first", "_law_axes_here", "_law_place"]:List Str) from by decide +kernel),rfl,(Or.inl rfl),%[0|7]|18],%[%[(1),_,(show List.Nodup (["_law_at", "_law_axis", "_law_first", "_law_axes_here", "_law_place"]:List Str) from by decide +kernel),rfl,(Or.inl rfl),%[0|7]|18],(@aw _),∅|15],∅|15],∅,∅|20].mono λ _ _ _ _ h=>aX h)),(λ C s₀ H₀ ex pn=>(@aM _)),(λ C s₀ H₀ ex pn=>%[bO,%[0|0],%[aH,%[1|0],%[0|2],(λ _ _=>rfl)|12]|10]),(by intros;rfl)|27]|1]|6]|10]|13]|11],?_⟩;rw [show aE ["_law_first", "_law_axes_here", "_law_place"] [.int f,.ref q,.ref p]=[some (.int f),some (.ref q),some (.ref p)] from rfl];have wk:=Cj (K:=K) (ka:=true) (kb:=false) (R1:=λ (z:Int) y (_:Hp)=>y=.int z) (R2:=axP) (λ _ _ _ _ h _=>h) (λ _ _ _ _ h e=>h.ext e) (zs:=ys) (ws:=A) hp hq ⟨by rw [MK],λ i z y hz hy=>by rw [MZ,hz] at hy;cases hy;rfl⟩ al;exists k;exists hb;ac_rfl;refine bH (ys.zip A) (λ _=>true) (λ z=>.int (z.1 * z.2.2)) (ES (λ (z:Int) y (_:Hp)=>y=.int z) axP) wk.1 wk.2 (az (by rw [NJ];omega)) ?_ ?_
  ·intro D z x H' N1 N0 hz hD e hx k1 _;obtain⟨p1,q1,q2,rfl,hp1,rfl,q3,rfl,hq3⟩:=hx;have k1':N1 (.int (z.1 * z.2.2)) H':=k1 rfl H' (Ext.refl _);have hz2:=hb () z.2 (ON (show (z.1,z.2)∈ys.zip A from hz)).2;have cm:iE z.1 z.2.2:=.inr ⟨by omega,by omega⟩;clear k1 wk k hz;simp! only [↓cC,↓bc]
  ·intro D H1 hD e1 h1;have h1':H1 D=some (.lst (((ys.zip A).map λ z=>z.1 * z.2.2).map V.int)):=by rw [h1,iC,NO];rfl
   have hsum:=rG A ys;have k':=k () H1 e1;rw [←hsum] at k';clear k wk h1 hsum;ac_rfl
def InA:List (Int × Int)->List Int->Prop
 | [],[]=>True
 | a::A,y::ys=>(0<=y/\y < a.1)/\InA A ys
 | _,_=>False
theorem InA.len:∀ {A:List (Int × Int)}{ys:List Int},InA A ys->ys.length=A.length
 | [],[],_=>rfl
 | [],_::_,h=>h.elim
 | _::_,[],h=>h.elim
 | _::_,_::_,h=>NF (· + 1) (InA.len h.2)
theorem InA.at:∀ {A:List (Int × Int)}{ys:List Int}{i:Nat}{a:Int × Int}{y:Int},InA A ys->A[i]? = some a->ys[i]? = some y->0<=y/\y < a.1
 | a::A,y::ys,0,b,z,h,h1,h2=>by cases h1;cases h2;exact h.1
 | a::A,y::ys,i+1,b,z,h,h1,h2=>InA.at h.2 (by simpa using h1) (by simpa using h2)
 | [],_,_,_,_,_,h1,_=>by simp at h1
 | _::_,[],_,_,_,h,_,_=>h.elim
abbrev nG  (p:Addr) (q:Addr) (H:Hp) (Q:VK) (E:XK):Prop:=∃ (A:List (Int × Int)) (ys:List Int),cI H q A/\H p=some (.tup (ys.map V.int))/\A.length<=8/\InA A ys/\∀ H',Ext H H'->Q (.bl true) H'
def pd  : Sp:=λ vs H Q E=>∃ (p:Addr) (q:Addr),vs=[.ref p,.ref q]/\(nG  p q H Q E)
theorem m9  (p:Addr) (q:Addr) (H:Hp) (Q:VK) (E:XK):pd  [.ref p,.ref q] H Q E=(nG  p q H Q E):=qj (f:=λ (p:Addr) (q:Addr)=>[.ref p,.ref q]) (λ _ _ _ _ h=>by cases h;exact⟨rfl,rfl⟩) p q
theorem xq  {vs:List V}{H:Hp}{Q:VK}{E:XK}(h:pd  vs H Q E):vs.length=2:=qm h λ _ _=>rfl
theorem hG(T:Tx K mg t):bj P w K mg base CX0 2 t.a__law_is_place t.d__law_is_place ["_law_place", "_law_axes_here"] pd:=by
 have G__law_whole:=%[eF|47];refine T.F__law_is_place.ok df (λ vs H Q E h=>xq h) (λ cdv A' outer s H vs Q E hr h=>?_)
 ·obtain⟨p,q,rfl,A,ys,⟨ts,hq,al⟩,hp,h8,hin,k⟩:=h;refine⟨_,%[%[(PW.pt %[%[%[%[isinstance,bf,%[%[0|0],%[%[(.ty "tuple"),(.type "tuple"),_,∅,T.z_tuple,nofun,rfl,⋯,⋯|31]|1]|1]|6],(by intros;rfl)|24]|25],%[%[(bN hr.units),%[len,aA,%[%[0|0]|1]|6],%[len,aA,%[%[1|0]|1]|6],(ae _)|14]|28]|22]),%[%[(@cO _ _ _ _)|13]|11],(@ah _)|16],%[%[M7,rfl,%[∅,T.z_zip,%[%[0|0],%[%[1|0]|1]|1],∅,∅|44],(%[(2),rfl,%[%[2,df|5],%[%[3,df|5],(@aw _),∅|15],∅|15],∅,∅|20].mono λ _ _ _ _ h=>aX h),%[%[(PW.pt %[%[%[%[_law_whole,%[%[2|0]|1]|3],(by intros;rfl)|24]|25],%[%[(@i8 _ _ _ _ _ _ _ _ _ _ _ _ iF eo %[0|2] %[2|0] %[aH,%[3|0],%[0|2],(λ _ _=>rfl)|12] ∅)|25]|28]|22]),%[%[(@cO _ _ _ _)|13]|11],(@ah _)|16]|11],(by intros;rfl)|30],%[%[(@cO _ _ _ _)|13]|11]|9]|9],?_⟩;rw [show aE ["_law_place", "_law_axes_here", "_law_at", "_law_axis"] [.ref p,.ref q]=[some (.ref p),some (.ref q),none,none] from rfl];clear G__law_whole;have htl:ts.length=A.length:=al.1;have hyl:=hin.len;have hll:(ys.length:Int)=(ts.length:Int):=by omega
  exists k;exists al;exists hin;exists htl;exists hyl;ac_rfl;refine vS (ka:=true) (kb:=false) (xs:=ys.map V.int) (ys:=ts) (λ i σ H'=>∃ v2 v3:Option V,σ=[some (.ref p),some (.ref q),v2,v3]/\Ext H H') ⟨none,none,rfl,Ext.refl _⟩ (λ i σ H' ⟨_,_,_,e⟩=>⟨e.at hp,e.at hq⟩) ?_ ?_
  ·rintro i x y w' _ H2 H3 hx hy ⟨v2,v3,rfl,e2⟩ hw e3 h3;rw [MZ] at hx;obtain⟨n,hn,rfl⟩:=M4.mp hx;have hiA:i < A.length:=by have:=(MB.mp hy).1;have:=htl ();omega
   obtain⟨tq,rfl,htq⟩:=(al ()).2 i A[i] y (Mx hiA) hy;obtain⟨n0,n1⟩:=(hin ()).at (Mx hiA) hn;have e03:=e2.trans e3;have ht3:=e03.at htq;generalize A[i]=b at *;clear hx hy hn hw k htq e2 e3;simp! only [↓aN,↓aR];exact⟨_,_,rfl,e03⟩
  ·rintro _ H2 ⟨v2,v3,rfl,e2⟩;have k':=k () H2 e2;clear k;ac_rfl
abbrev nD  (p:Addr) (H:Hp) (Q:VK) (E:XK):Prop:=∃ zs:List Tm3,gA H p zs/\zs.length<=17/\(∀ z∈zs,0<=z.2.2 - z.2.1+1/\z.2.2 - z.2.1+1<=50000000000)/\∀ H',Ext H H'->Q (.int (fH (zs.map λ z=>z.2))) H'
def oZ  : Sp:=λ vs H Q E=>∃ (p:Addr),vs=[.ref p]/\(nD  p H Q E)
theorem x8  (p:Addr) (H:Hp) (Q:VK) (E:XK):oZ  [.ref p] H Q E=(nD  p H Q E):=qk (f:=λ (p:Addr)=>[.ref p]) (λ _ _ h=>by cases h;exact rfl) p
theorem xn  {vs:List V}{H:Hp}{Q:VK}{E:XK}(h:oZ  vs H Q E):vs.length=1:=oF h λ _=>rfl
theorem qL:∀ (cs:Bx) (b:Int × Int),fH (cs++[b])=fH cs * (b.2 - b.1+1)
 | [],b=>by show (b.2 - b.1+1) * 1=1 * (b.2 - b.1+1);omega
 | c::cs,b=>by
  show (c.2 - c.1+1) * fH (cs++[b])=(c.2 - c.1+1) * fH cs * (b.2 - b.1+1)
  rw [qL cs b,Int.mul_assoc]
theorem jv(T:Tx K mg t):bj P w K mg base CX0 1 t.a__law_product t.d__law_product ["_law_terms_here"] oZ:=by
 refine T.F__law_product.ok bu (λ vs H Q E h=>xn h) (λ cdv A' outer s H vs Q E hr h=>?_)
 ·obtain⟨p,rfl,zs,⟨ts,hp,al⟩,h17,hb,k⟩:=h;refine⟨_,%[%[1,bu,%[0|2]|4],%[%[M7,rfl,%[%[0|0]|23],(%[(3),rfl,%[%[2,bu|5],%[%[3,bu|5],%[%[4,bu|5],(@aw _),∅|15],∅|15],∅|15],∅,∅|20].mono λ _ _ _ _ h=>aX h),%[%[1,bu,%[bO,%[1|0],%[aD,%[aB,%[4|0],%[3|0]|10],%[0|2]|10]|10]|4]|11],(by intros;rfl)|30],%[%[%[1|0]|13]|11]|9]|9],?_⟩;rw [show aE ["_law_terms_here", "_law_count", "_law_times", "_law_low", "_law_high"] [.ref p]=[some (.ref p),none,none,none,none] from rfl];have htl:ts.length=zs.length:=al.1;exists k;exists al;exists hb;exists htl;ac_rfl;refine dB (xs:=ts) (λ i σ H'=>∃ v2 v3 v4:Option V,σ=[some (.ref p),some (.int (fH ((zs.take i).map λ z=>z.2))),v2,v3,v4]/\Ext H H') ⟨none,none,none,rfl,Ext.refl _⟩ (λ i σ H' _ ⟨_,_,_,_,e⟩=>e.at hp) ?_ ?_
  ·rintro i y _ H2 hi ⟨v2,v3,v4,rfl,e2⟩;have hiz:i < zs.length:=by have:=(MB.mp hi).1;have:=htl ();omega
   obtain⟨tq,rfl,htq⟩:=(al ()).2 i zs[i] y (Mx hiz) hi;have hbi:=hb () zs[i] (Nx hiz)
   have hs:fH ((zs.take (i+1)).map λ z=>z.2)=fH ((zs.take i).map λ z=>z.2) * (zs[i].2.2 - zs[i].2.1+1):=by
    rw [OC,Mx hiz,Om];exact qL _ _
   rw [hs];have cm:iE (fH ((zs.take i).map λ z=>z.2)) (zs[i].2.2 - zs[i].2.1+1):=.inr ⟨by omega,by omega⟩;have ht2:=e2.at htq;generalize zs[i]=z at *;generalize fH ((zs.take i).map λ z=>z.2)=vl at *;clear hs hi k htq;simp! only [↓aN];exact⟨_,_,_,rfl,e2⟩
  ·rintro _ H2 ⟨v2,v3,v4,rfl,e2⟩;rw [htl (),N2];have k':=k () H2 e2;clear k;ac_rfl
abbrev rY  (x:Addr) (p:Addr) (q:Addr) (g:Int) (H:Hp) (Q:VK) (E:XK):Prop:=∃ (A B:List (Int × Int)) (ys zs:List Int) (a1 a2:Addr),H x=some (.tup [.str "shared",.ref a1,.ref a2])/\H a1=some (.tup (ys.map V.int))/\H a2=some (.tup (zs.map V.int))/\cI H p A/\cI H q B/\A.length<=8/\B.length<=8/\InA A ys/\InA B zs/\(∀ a∈A,-100000000000000000<=a.2/\a.2<=100000000000000000)/\(∀ a∈B,-100000000000000000<=a.2/\a.2<=100000000000000000)/\iD A ys=g+iD B zs/\∀ H',Ext H H'->Q (.bl true) H'
def uS  : Sp:=λ vs H Q E=>∃ (x:Addr) (p:Addr) (q:Addr) (g:Int),vs=[.ref x,.ref p,.ref q,.int g]/\(rY  x p q g H Q E)
theorem AY  (x:Addr) (p:Addr) (q:Addr) (g:Int) (H:Hp) (Q:VK) (E:XK):uS  [.ref x,.ref p,.ref q,.int g] H Q E=(rY  x p q g H Q E):=BI (f:=λ (x:Addr) (p:Addr) (q:Addr) (g:Int)=>[.ref x,.ref p,.ref q,.int g]) (λ _ _ _ _ _ _ _ _ h=>by cases h;exact⟨rfl,rfl,rfl,rfl⟩) x p q g
theorem zX  {vs:List V}{H:Hp}{Q:VK}{E:XK}(h:uS  vs H Q E):vs.length=4:=BJ h λ _ _ _ _=>rfl
theorem pS(T:Tx K mg t):bj P w K mg base CX0 3 t.a__law_met t.d__law_met ["_law_found", "_law_one", "_law_other", "_law_goal"] uS:=by
 have G__law_is_place:=%[hG|47];have G__law_cell:=%[nS|47];refine T.F__law_met.ok uj (λ vs H Q E h=>zX h) (λ cdv A' outer s H vs Q E hr h=>?_)
 ·obtain⟨x,p,q,g,rfl,A,B,ys,zs,a1,a2,hx,h1,h2,hp,hq,hA,hB,iA,iB,bA,bB,hd,k⟩:=h;refine⟨_,%[%[(PW.pt %[%[%[%[isinstance,bf,%[%[0|0],%[%[(.ty "tuple"),(.type "tuple"),_,∅,T.z_tuple,nofun,rfl,⋯,⋯|31]|1]|1]|6],(by intros;rfl)|24]|25],%[%[(bN hr.units),%[len,aA,%[%[0|0]|1]|6],%[0|2],(ae _)|14],%[%[(bN hr.units),%[aH,%[0|0],%[0|2],(λ _ _=>rfl)|12],(@aW _ _ _ _),(ae _)|14]|28]|22]|22]),%[%[(@cO _ _ _ _)|13]|11],(@ah _)|16],%[%[(PW.pt %[%[%[%[_law_is_place,%[%[aH,%[0|0],%[0|2],(λ _ _=>rfl)|12],%[%[1|0]|1]|1]|3],(by intros;rfl)|24]|25],%[%[%[%[_law_is_place,%[%[aH,%[0|0],%[0|2],(λ _ _=>rfl)|12],%[%[2|0]|1]|1]|3],(by intros;rfl)|24]|25]|28]|22]),%[%[(@cO _ _ _ _)|13]|11],(@ah _)|16],%[%[%[(bG hr.units),%[_law_cell,%[%[0|2],%[%[1|0],%[%[aH,%[0|0],%[0|2],(λ _ _=>rfl)|12]|1]|1]|1]|3],%[_law_cell,%[%[3|0],%[%[2|0],%[%[aH,%[0|0],%[0|2],(λ _ _=>rfl)|12]|1]|1]|1]|3],(ae _)|33]|13]|11]|9]|9],?_⟩;rw [show aE ["_law_found", "_law_one", "_law_other", "_law_goal"] [.ref x,.ref p,.ref q,.int g]=[some (.ref x),some (.ref p),some (.ref q),some (.int g)] from rfl];clear G__law_is_place G__law_cell;exists k;exists hd;exists iA;exists iB;exists bA;exists bB;ac_rfl;rw [m9];refine⟨A,ys,hp,h1,hA,iA (),λ H1 e1=>?_⟩;have hx1:=e1.at hx;ac_rfl;rw [m9];refine⟨B,zs,ay hq e1,e1.at h2,hB,iB (),λ H2 e2=>?_⟩;have e02:=e1.trans e2;have hx2:=e2.at hx1;ac_rfl;rw [nc];refine⟨A,ys,ay hp e02,e02.at h1,hA,bA (),λ H3 e3=>?_⟩;have e03:=e02.trans e3;have hx3:=e3.at hx2;ac_rfl;rw [nc];refine⟨B,zs,ay hq e03,e03.at h2,hB,bB (),λ H4 e4=>?_⟩;ac_rfl;rw [MY (show 0+iD A ys=g+iD B zs by have:=hd ();omega)];exact k () H4 (e03.trans e4)
structure hV(H:Hp)(P:List (Int × Int))(ks:List Int)(kvs:List (Key × V)):Prop where
 e1:kvs.map (·.1)=ks.map (Sum.inl:Int->Key)
 nd:ks.Nodup
 len:ks.length<=P.length
 v:∀ t∈ks,∃ q,ei kvs (.inl t)=some (.ref q)/\H q=some (.tup [.int (eh P t),.int (cc P t)])
 mem:∀ t,t∈ks ↔ t ≠ 0/\∃ z∈P,ar z.1=t
theorem hV.ext{H H':Hp}{P:List (Int × Int)}{ks:List Int}{kvs:List (Key × V)}(h:hV H P ks kvs)(e:Ext H H'):hV H' P ks kvs:=
 ⟨h.e1,h.nd,h.len,λ t ht=>(let ⟨q,h1,h2⟩:=h.v t ht;⟨q,h1,e.at h2⟩),h.mem⟩
theorem hV.upd{H:Hp}{P:List (Int × Int)}{ks:List Int}{kvs k0:List (Key × V)}{d:Addr}{o:HO}(h:hV H P ks kvs)(hd:H d=some (.dK k0)):hV (upd H d o) P ks kvs:=
 ⟨h.e1,h.nd,h.len,λ t ht=>(let ⟨q,h1,h2⟩:=h.v t ht;⟨q,h1,by rw [ai (λ z=>by rw [z,hd] at h2;cases h2)];exact h2⟩),h.mem⟩
theorem hV.nil{H:Hp}:hV H [] [] []:=⟨rfl,Ph,MG _,(λ t h=>by cases h),λ t=>⟨(λ h=>by cases h),λ ⟨_,z,hz,_⟩=>by cases hz⟩⟩
theorem hV.get{H:Hp}{P:List (Int × Int)}{ks:List Int}{kvs:List (Key × V)}{q0:Addr}(h:hV H P ks kvs){t:Int}(ht:t ≠ 0)(h0:H q0=some (.tup [.int 0,.int 0])):∃ q,(ei kvs (.inl t)).getD (.ref q0)=.ref q/\H q=some (.tup [.int (eh P t),.int (cc P t)]):=by
 by_cases hm:t∈ks
 ·obtain⟨q,h1,h2⟩:=h.v t hm;exact⟨q,by rw [h1];rfl,h2⟩
 ·have hno:∀ z∈P,¬ ar z.1=t:=λ z hz e=>hm ((h.mem t).mpr ⟨ht,z,hz,e⟩);refine⟨q0,by rw [fj h.e1 hm];rfl,?_⟩;unfold eh cc;rw [eQ hno,eQ hno];exact h0
theorem hV.skip{H:Hp}{P:List (Int × Int)}{ks:List Int}{kvs:List (Key × V)}{z:Int × Int}(h:hV H P ks kvs)(hz:z.1=0):hV H (P++[z]) ks kvs:=by
 have h0:ar z.1=0:=by rw [hz];rfl
 have hne:∀ t∈ks,¬ ar z.1=t:=λ t ht e=>((h.mem t).mp ht).1 (by rw [←e];exact h0);refine⟨h.e1,h.nd,by rw [ML];have:=h.len;omega,λ t ht=>?_,λ t=>?_⟩
 ·obtain⟨q,h1,h2⟩:=h.v t ht;exact⟨q,h1,by rw [iq,gu,MH (hne t ht),MH (hne t ht),NI,NI];exact h2⟩
 ·rw [h.mem t];constructor
  ·rintro ⟨a,y,hy,e⟩;exact⟨a,y,NQ _ hy,e⟩
  ·rintro ⟨a,y,hy,e⟩
   rcases Nj.mp hy with hy|hy
   ·exact⟨a,y,hy,e⟩
   ·rw [MV.mp hy,h0] at e;exact absurd e.symm a
theorem hV.put{H:Hp}{P:List (Int × Int)}{ks:List Int}{kvs:List (Key × V)}{z:Int × Int}{tq:Addr}(h:hV H P ks kvs)(hz:z.1 ≠ 0)(ht:H tq=some (.tup [.int (eh P (ar z.1)+loP z),.int (cc P (ar z.1)+hiP z)])):∃ ks',hV H (P++[z]) ks' (dI kvs (.inl (ar z.1)) (.ref tq)):=by
 have h0:ar z.1 ≠ 0:=by unfold ar;omega
 have hv:∀ t:Int,ei (dI kvs (.inl (ar z.1)) (.ref tq)) (.inl t)=if ar z.1=t then some (.ref tq) else ei kvs (.inl t):=λ t=>by
  rw [kJ]
  by_cases e:ar z.1=t
  ·rw [MI e,MI (by rw [e])]
  ·rw [MH e,MH (λ q=>e (by cases q;rfl))]
 have fin:∀ ks',(∀ t,t∈ks' ↔ t∈ks\/t=ar z.1)->(dI kvs (.inl (ar z.1)) (.ref tq)).map (·.1)=ks'.map (Sum.inl:Int->Key)->ks'.Nodup->ks'.length<=ks.length+1->hV H (P++[z]) ks' (dI kvs (.inl (ar z.1)) (.ref tq)):=λ ks' hm a1 a3 a4=>by
  refine⟨a1,a3,by rw [ML,M8];have:=h.len;omega,λ t ht'=>?_,λ t=>?_⟩
  ·rw [hv,iq,gu]
   by_cases e:ar z.1=t
   ·rw [MI e,MI e,MI e,←e];exact⟨tq,rfl,ht⟩
   ·rw [MH e,MH e,MH e,NI,NI];exact h.v t (((hm t).mp ht').resolve_right λ q=>e q.symm)
  ·rw [hm t,h.mem t];constructor
   ·rintro (⟨a,y,hy,e⟩|e)
    ·exact⟨a,y,NQ _ hy,e⟩
    ·exact⟨by rw [e];exact h0,z,Ni _ MF,e.symm⟩
   ·rintro ⟨a,y,hy,e⟩
    rcases Nj.mp hy with hy|hy
    ·exact .inl ⟨a,y,hy,e⟩
    ·rw [MV.mp hy] at e;exact .inr e.symm
 by_cases hm:ar z.1∈ks
 ·obtain⟨q,h1,_⟩:=h.v _ hm;exact⟨ks,fin ks (λ t=>⟨.inl,λ q=>q.elim id λ e=>by rw [e];exact hm⟩) (by rw [i7 _ h1];exact h.e1) h.nd %[0|8]⟩
 ·refine⟨ks++[ar z.1],fin _ (λ t=>by rw [Nj,MV]) ?_ ?_ (by rw [ML];exact MG _)⟩
  ·rw [gM (fj h.e1 hm),h.e1,Om];rfl
  ·rw [List.nodup_append];exact⟨h.nd,by simp,λ a ha b hb e=>hm (by rw [MV] at hb;rw [←hb,←e];exact ha)⟩
theorem vW:∀ {l m:List Int},l.Nodup->m.Nodup->l.Pairwise (· >= ·)->m.Pairwise (· >= ·)->(∀ t,t∈l ↔ t∈m)->l=m
 | [],[],_,_,_,_,_=>rfl
 | [],b::m,_,_,_,_,h=>by have:=(h b).mpr MF;cases this
 | a::l,[],_,_,_,_,h=>by have:=(h a).mp MF;cases this
 | a::l,b::m,n1,n2,p1,p2,h=>by
  obtain⟨a1,a2⟩:=Nq.mp n1;obtain⟨b1,b2⟩:=Nq.mp n2;obtain⟨c1,c2⟩:=List.pairwise_cons.mp p1;obtain⟨d1,d2⟩:=List.pairwise_cons.mp p2
  have hab:a=b:=by
   rcases MU.mp ((h a).mp MF) with e|e
   ·exact e
   ·rcases MU.mp ((h b).mpr MF) with e'|e'
    ·exact e'.symm
    ·have x1:=d1 a e;have x2:=c1 b e';omega
  subst hab;congr 1;refine vW a2 b2 c2 d2 λ t=>⟨λ ht=>?_,λ ht=>?_⟩
  ·exact(MU.mp ((h t).mp (MD _ ht))).resolve_left λ e=>a1 (by rw [←e];exact ht)
  ·exact(MU.mp ((h t).mpr (MD _ ht))).resolve_left λ e=>b1 (by rw [←e];exact ht)
theorem oE.uniq{l m:List Int}{P:List (Int × Int)}(h1:oE l P)(h2:oE m P):l=m:=vW h1.nd h2.nd h1.ord h2.ord λ t=>(h1.mem t).trans (h2.mem t).symm
theorem lD:∀ {A B:List (Int × Int)}{ys zs:List Int},InA A ys->InA B zs->A6 (ao A B) (ys++zs)=iD A ys - iD B zs
 | [],[],[],[],_,_=>rfl
 | [],[],[],_::_,_,h=>h.elim
 | [],_::_,[],[],_,h=>h.elim
 | [],b::B,[],z::zs,h1,h2=>by
  have ih:=lD (A:=[]) (ys:=[]) (B:=B) (zs:=zs) trivial h2.2
  show -b.2 * z+A6 (ao [] B) ([]++zs)=0 - (b.2 * z+iD B zs)
  rw [ih,Int.neg_mul]
  show _+(0 - iD B zs)=_
  omega
 | [],_,_::_,_,h,_=>h.elim
 | _::_,_,[],_,h,_=>h.elim
 | a::A,B,y::ys,zs,h1,h2=>by
  have ih:=lD h1.2 h2
  show a.2 * y+A6 (ao A B) (ys++zs)=a.2 * y+iD A ys - iD B zs
  rw [ih];omega
theorem ky:∀ {A B:List (Int × Int)}{xs:List Int},InP (ao A B) xs->InA A (xs.take A.length)/\InA B (xs.drop A.length)
 | [],[],[],_=>⟨trivial,trivial⟩
 | [],[],_::_,h=>h.elim
 | [],_::_,[],h=>h.elim
 | [],b::B,z::zs,h=>⟨trivial,h.1,(ky (A:=[]) (B:=B) (xs:=zs) h.2).2⟩
 | _::_,_,[],h=>h.elim
 | a::A,B,y::xs,h=>⟨⟨h.1,(ky h.2).1⟩,(ky h.2).2⟩
def sgP(sg:Int)(a:Int × Int):Int × Int:=(sg * (af a).2,a.1)
theorem CC(A B:List (Int × Int)):ao (A.map af) (B.map af)=A.map (sgP 1)++B.map (sgP (-1)):=by
 unfold ao;rw [map_map,map_map];congr 1
 ·refine Oe λ a _=>?_
  show ((af a).2,a.1)=(1 * (af a).2,a.1)
  rw [Int.one_mul]
 ·refine Oe λ a _=>?_
  show (-(af a).2,a.1)=(-1 * (af a).2,a.1)
  rw [Int.neg_one_mul]
abbrev j6  (p:Addr) (q:Addr) (H:Hp) (Q:VK) (E:XK):Prop:=∃ A B:List (Int × Int),cI H p A/\cI H q B/\A.length<=8/\B.length<=8/\(∀ a∈A,(1:Int)<=a.1)/\(∀ a∈B,(1:Int)<=a.1)/\∀ (ks:List Int) (r:Addr) (H':Hp),Ext H H'->gA H' r (ag ks (ao (A.map af) (B.map af)))->oE ks (ao (A.map af) (B.map af))->Q (.ref r) H'
def kU  : Sp:=λ vs H Q E=>∃ (p:Addr) (q:Addr),vs=[.ref p,.ref q]/\(j6  p q H Q E)
theorem dZ  (p:Addr) (q:Addr) (H:Hp) (Q:VK) (E:XK):kU  [.ref p,.ref q] H Q E=(j6  p q H Q E):=qj (f:=λ (p:Addr) (q:Addr)=>[.ref p,.ref q]) (λ _ _ _ _ h=>by cases h;exact⟨rfl,rfl⟩) p q
theorem tL  {vs:List V}{H:Hp}{Q:VK}{E:XK}(h:kU  vs H Q E):vs.length=2:=qm h λ _ _=>rfl
theorem b6(T:Tx K mg t):bj P w K mg base CX0 1 t.a__law_terms t.d__law_terms ["_law_one", "_law_other"] kU:=by
 refine T.F__law_terms.ok aY (λ vs H Q E h=>tL h) (λ cdv A' outer s H vs Q E hr h=>?_)
 ·obtain⟨p,q,rfl,A,B,pA,pB,hA,hB,sA,sB,k⟩:=h;refine⟨_,%[(@gf _ _ (2) _ _ _ _ aY.nd rfl (Or.inr rfl) (@fi _ _) ∅ %[0|7]),%[%[M7,rfl,%[%[%[%[%[%[0|0],%[%[0|2]|1]|1]|17],%[%[%[%[1|0],%[(@BV _ _ _ _ _ _ oS %[0|2])|1]|1]|17]|1]|1]|19]|23],(%[(2),rfl,%[%[3,aY|5],%[%[4,aY|5],(@aw _),∅|15],∅|15],∅,∅|20].mono λ _ _ _ _ h=>aX h),%[%[M7,rfl,%[%[3|0]|23],(%[(2),rfl,%[%[5,aY|5],%[%[6,aY|5],(@aw _),∅|15],∅|15],∅,∅|20].mono λ _ _ _ _ h=>aX h),%[%[(PW.pt %[%[dz,%[5|0],%[0|2],(ae _)|14],%[%[(bN hr.units),%[6|0],%[0|2],(ae _)|14]|34]|32]),%[%[%[(bM hr.units),%[2|0],%[abs,bC,%[%[6|0]|1]|6],%[%[%[0|2],%[%[0|2]|1]|1]|17],⟨by rfl,by rfl,by rfl,by rfl⟩|41],(%[(2),rfl,%[%[7,aY|5],%[%[8,aY|5],(@aw _),∅|15],∅|15],∅,∅|20].mono λ _ _ _ _ h=>aX h),∅,∅,∅|39],%[%[%[dz,%[bO,%[6|0],%[4|0]|10],%[0|2],(ae _)|14],%[%[(bM hr.units),%[2|0],%[abs,bC,%[%[6|0]|1]|6],%[%[%[7|0],%[%[aB,%[aD,%[8|0],%[5|0]|10],%[0|2]|10]|1]|1]|17],rfl|40]|11],%[%[(bM hr.units),%[2|0],%[abs,bC,%[%[6|0]|1]|6],%[%[%[aD,%[aB,%[7|0],%[5|0]|10],%[0|2]|10],%[%[8|0]|1]|1]|17],rfl|40]|11]|16]|11]|9],(@ah _)|16]|11],(by intros;rfl)|30]|11],(by intros;rfl)|30],%[%[(["_law_times", "_law_one", "_law_other", "_law_ranges", "_law_axes_here", "_law_sign", "_law_size", "_law_pace", "_law_low", "_law_high", "_law_found"]),(1),(9),_,aY.nd,rfl,(Or.inl rfl),(aK (aa dk) ["_law_one", "_law_other", "_law_ranges", "_law_axes_here", "_law_sign", "_law_size", "_law_pace", "_law_low", "_law_high", "_law_found"] rfl rfl nofun),rfl,%[%[sorted,(tY rfl),%[%[2|0]|1]|6]|23],(λ C s₀ H₀ ex pn=>%[(0),_,(show List.Nodup (["_law_times", "_law_one", "_law_other", "_law_ranges", "_law_axes_here", "_law_sign", "_law_size", "_law_pace", "_law_low", "_law_high", "_law_found"]:List Str) from by decide +kernel),rfl,(Or.inl rfl),%[0|7]|18]),(λ C s₀ H₀ ex pn=>(@aM _)),(λ C s₀ H₀ ex pn=>%[zm,%[%[%[0|0]|1]|17],(@iQ _ _ _ _ _ _ (bM hr.units) %[3|0] %[0|0] (λ _ _=>rfl))|10]),∅,(by intros;rfl),%[0|7]|45],%[%[(@qw _ _ _ _ _ _ _ _ _ M6 PySem.F.slot_list_reverse PySem.F.type_list_reverse sU %[9|0] ∅ ∅),∅|36],%[%[%[9|0]|13]|11]|9]|9]|9]|9],?_⟩;rw [show aE ["_law_one", "_law_other", "_law_ranges", "_law_axes_here", "_law_sign", "_law_size", "_law_pace", "_law_low", "_law_high", "_law_found"] [.ref p,.ref q]=[some (.ref p),some (.ref q),none,none,none,none,none,none,none,none] from rfl];rw [CC] at k;exists k;exists sA;exists sB;ac_rfl;intro d H1 hd1 e1 h1;have hd0:=hd1;ac_rfl;intro t1 H2 _ e2 h2;ac_rfl;intro t2 H3 _ e3 h3;have h2_3:=e3.at h2;ac_rfl;intro l4 H4 hl4 e4 h4;have nl:l4 ≠ d:=λ z=>by rw [z,(e2.trans e3).at h1] at hl4;cases hl4
  have e04:=e1.trans (e2.trans (e3.trans e4));have h1_4:=(e2.trans (e3.trans e4)).at h1;have ht1:=e4.at h2_3;have ht2:=e4.at h3;clear hd1 hl4 h1 h2 h2_3 h3 e1 e2 e3 e4;ac_rfl;refine dB (xs:=[.ref t1,.ref t2]) (λ i σ H'=>∃ (ks:List Int) (kvs:List (Key × V)) (v3 v4 v5 v6 v7 v8:Option V),σ=[some (.ref p),some (.ref q),some (.ref d),v3,v4,v5,v6,v7,v8,none]/\Ext H H'/\(∀ b o,b ≠ d->H4 b=some o->H' b=some o)/\H' d=some (.dK kvs)/\hV H' (if i=0 then [] else if i=1 then A.map (sgP 1) else A.map (sgP 1)++B.map (sgP (-1))) ks kvs) ⟨[],[],none,none,none,none,none,none,rfl,e04,λ _ _ _ h=>h,h1_4,hV.nil⟩ (λ i σ H' _ ⟨_,_,_,_,_,_,_,_,_,_,kp,_⟩=>kp l4 _ nl h4) ?_ ?_
  ·rintro i y _ H5 hi ⟨ks,kvs,v3,v4,v5,v6,v7,v8,rfl,e5,kp,h5d,ri⟩
   obtain⟨tq,axp,Ax,sg,P0,hy,htq,pX,hX8,hX1,hsg,hP8,hP0,hP1⟩:∃ (tq axp:Addr) (Ax:List (Int × Int)) (sg:Int) (P0:List (Int × Int)),y=.ref tq/\H4 tq=some (.tup [.ref axp,.int sg])/\cI H axp Ax/\Ax.length<=8/\(∀ a∈Ax,(1:Int)<=a.1)/\(sg=1\/sg=-1)/\P0.length<=8/\(if i=0 then [] else if i=1 then A.map (sgP 1) else A.map (sgP 1)++B.map (sgP (-1)))=P0/\(if i+1=0 then [] else if i+1=1 then A.map (sgP 1) else A.map (sgP 1)++B.map (sgP (-1)))=P0++Ax.map (sgP sg):=by
    match i,hi with
    | 0,hi=>cases hi;exact⟨t1,p,A,1,[],rfl,ht1,pA,hA,sA (),.inl rfl,by decide,rfl,rfl⟩
    | 1,hi=>cases hi;exact⟨t2,q,B,-1,A.map (sgP 1),rfl,ht2,pB,hB,sB (),.inr rfl,by rw [MK];exact hA,rfl,rfl⟩
    | i+2,hi=>simp at hi
   subst hy;rw [hP0] at ri;rw [hP1];have ht5:=kp tq _ (λ e=>by rw [e,h1_4] at htq;cases htq) htq;obtain⟨ts,hax,alX⟩:=pX;have hax5:=e5.at hax;have htl:ts.length=Ax.length:=alX.1;exists alX;exists htl;exists hX1;have ini:hV H5 (P0++(Ax.map (sgP sg)).take 0) ks kvs:=by rw [List.take_zero,Oz];exact ri
   exists ini;clear hi hP0 hP1 ri htq k pA pB ht1 ht2 h4;simp! only [↓aN];refine dB (xs:=ts) (λ j σ H'=>∃ (ks:List Int) (kvs:List (Key × V)) (v5 v6 v7 v8:Option V),σ=[some (.ref p),some (.ref q),some (.ref d),some (.ref axp),some (.int sg),v5,v6,v7,v8,none]/\Ext H H'/\(∀ b o,b ≠ d->H4 b=some o->H' b=some o)/\H' d=some (.dK kvs)/\hV H' (P0++(Ax.map (sgP sg)).take j) ks kvs) ⟨ks,kvs,_,_,_,_,rfl,e5,kp,h5d,ini ()⟩ (λ j σ H' _ ⟨_,_,_,_,_,_,_,e,_⟩=>e.at hax) ?_ ?_
   ·clear ini h5d e5 kp ht5 hax5;rintro j y _ H6 hj ⟨ks,kvs,v5,v6,v7,v8,rfl,e6,kp,h6d,ri⟩;have hjA:j < Ax.length:=by have:=(MB.mp hj).1;have:=htl ();omega
    obtain⟨aq,rfl,haq⟩:=(alX ()).2 j Ax[j] y (Mx hjA) hj;have ha6:=e6.at haq;have hsz:=hX1 () Ax[j] (Nx hjA)
    have htk:(Ax.map (sgP sg)).take (j+1)=(Ax.map (sgP sg)).take j++[sgP sg Ax[j]]:=by
     rw [OC,MZ,Mx hjA];rfl
    rw [htk,←Ov];have hPl:(P0++(Ax.map (sgP sg)).take j).length<=16:=by rw [ML,NP,MK];omega
    generalize P0++(Ax.map (sgP sg)).take j=PP at *;have lk:kvs.length < sizeLine:=gT (by have:=NF List.length ri.e1;have:=ri.len;rw [MK,MK] at *;omega);generalize Ax[j]=a at *;clear hj htk haq
    by_cases hs1:1 < a.1
    ·have hkp:(af a).2=a.2:=by unfold af;rw [if_pos hs1]
     by_cases hp0:a.2=0
     ·have rs:=λ (_:Unit)=>ri.skip (z:=sgP sg a) (by show sg * (af a).2=0;rw [hkp,hp0,NG]);clear ri hkp;simp! only [↓aN];exact⟨ks,kvs,_,_,_,_,rfl,e6,kp,rfl,rs ()⟩
     obtain⟨z,hz⟩:∃ z,sgP sg a=z:=⟨_,rfl⟩;have hz1:z.1=sg * a.2:=by rw [←hz];show sg * (af a).2=_;rw [hkp]
     have hz2:z.2=a.1:=by rw [←hz];rfl
     have hz0:z.1 ≠ 0:=by rw [hz1];rcases hsg with rfl|rfl<;>omega
     have hab0:ar z.1 ≠ 0:=by unfold ar;omega
     have habs:(if a.2 < 0 then -a.2 else a.2)=ar z.1:=by
      unfold ar;rw [hz1];rcases hsg with rfl|rfl<;>split<;>omega
     have hsgn:(0 < a.2 * sg ↔ 0 < z.1):=by rw [hz1,OM]
     rw [hz];have cm:iE a.2 sg:=.inr ⟨by rcases hsg with rfl|rfl<;>decide,by rcases hsg with rfl|rfl<;>decide⟩;exists ri;exists hz1;exists hz2;exists hz;exists hsgn;exists hkp;simp! only [↓aN];refine fM h6d ?_;ac_rfl;intro q0 H8 _ e8 h8;have h8d:=e8.at h6d;have e08:=e6.trans e8;obtain⟨qv,hgv,hqv⟩:=((ri ()).ext e8).get hab0 h8;have ri8:=λ (_:Unit)=>(ri ()).ext e8;have kp8:=λ (_:Unit)=>λ b o (x1:b ≠ d) (h:H4 b=some o)=>e8.at (kp b o x1 h);clear ha6 h6d kp e6;ac_rfl;refine iH (k:=.inl (ar z.1)) h8d ?_;rw [hgv];clear hgv
     by_cases hpos:0 < a.2 * sg
     ·have hzp:=(hsgn ()).mp hpos;have hlo:loP z=0:=by unfold loP;rw [if_pos hzp]
      have hhi:hiP z=a.1 - 1:=by unfold hiP;rw [if_pos hzp,hz2 ()]
      exists hlo;exists hhi;clear hzp;ac_rfl;intro t9 H9 ht9 e9 h9;have h9d:=e9.at h8d;obtain⟨ks',rn⟩:=((ri8 ()).ext e9).put (z:=z) (tq:=t9) hz0 (by rw [h9,hlo (),hhi (),NI,Int.add_sub_assoc]);have ru:=λ (_:Unit)=>hV.upd (o:=.dK (dI kvs (.inl (ar z.1)) (.ref t9))) rn h9d;clear rn ht9 ri8 h8d ri;ac_rfl;refine gQ (k:=.inl (ar z.1)) h9d lk ?_;exact⟨ks',_,_,_,_,_,rfl,(e08.trans e9).put hd0,λ b o x1 h=>by rw [ai x1];exact e9.at (kp8 () b o x1 h),aj,ru ()⟩
     ·have hzp:¬ 0 < z.1:=λ h=>hpos ((hsgn ()).mpr h);have hlo:loP z=1 - a.1:=by unfold loP;rw [if_neg hzp,hz2 ()]
      have hhi:hiP z=0:=by unfold hiP;rw [if_neg hzp]
      exists hlo;exists hhi;clear hzp;ac_rfl;intro t9 H9 ht9 e9 h9;have h9d:=e9.at h8d;obtain⟨ks',rn⟩:=((ri8 ()).ext e9).put (z:=z) (tq:=t9) hz0 (by rw [h9,hlo (),hhi (),NI,show eh PP (ar z.1) - a.1+1=eh PP (ar z.1)+(1 - a.1) by omega]);have ru:=λ (_:Unit)=>hV.upd (o:=.dK (dI kvs (.inl (ar z.1)) (.ref t9))) rn h9d;clear rn ht9 ri8 h8d ri;ac_rfl;refine gQ (k:=.inl (ar z.1)) h9d lk ?_;exact⟨ks',_,_,_,_,_,rfl,(e08.trans e9).put hd0,λ b o x1 h=>by rw [ai x1];exact e9.at (kp8 () b o x1 h),aj,ru ()⟩
    ·have hkp:(af a).2=0:=by unfold af;rw [if_neg hs1]
     have rs:=λ (_:Unit)=>ri.skip (z:=sgP sg a) (by show sg * (af a).2=0;rw [hkp,NG]);clear ri hkp;simp! only [↓aN];exact⟨ks,kvs,_,_,_,_,rfl,e6,kp,rfl,rs ()⟩
   ·rintro _ H6 ⟨ks,kvs,v5,v6,v7,v8,rfl,e6,kp,h6d,ri⟩;rw [htl (),NC (by rw [MK];exact MG _)] at ri;exact⟨ks,kvs,_,_,_,_,_,_,rfl,e6,kp,h6d,ri⟩
  ·rintro _ H5 ⟨ks,kvs,v3,v4,v5,v6,v7,v8,rfl,e5,kp,h5d,ri⟩;have ri':hV H5 (A.map (sgP 1)++B.map (sgP (-1))) ks kvs:=ri;have hPl:(A.map (sgP 1)++B.map (sgP (-1))).length<=16:=by rw [ML,MK,MK];omega
   generalize A.map (sgP 1)++B.map (sgP (-1))=P' at *;have hk1:ks.length < 64:=by have:=ri'.len;omega
   exists ri';clear ri kp h4 h1_4 ht1 ht2 pA pB e04;ac_rfl;refine Cm h5d (ri' ()).e1 hk1 λ ms hpm hord=>?_;intro q6 H6 hq6 e6 h6;have h6d:=e6.at h5d;have ri6:=λ (_:Unit)=>(ri' ()).ext e6;have hms:ms.length<=64:=by rw [hpm.length_eq];omega
   exists hpm;exists hord;clear hq6;ac_rfl;have wk:=qr (K:=K) h6;refine cx (ms.map V.int) (λ _=>true) (λ z x H'=>x=z/\H' q6=some (.lst (ms.map V.int))) (λ D z y H'=>trP (vi z,eh P' (vi z),cc P' (vi z)) y H') wk.1 wk.2 (λ D z y H1 H2 h e=>trP.ext (z:=(vi z,eh P' (vi z),cc P' (vi z))) h e) (λ D z y H1 xs o h hD=>trP.upd (z:=(vi z,eh P' (vi z),cc P' (vi z))) h hD) (az (by rw [MK];omega)) ?_ ?_
   ·intro D z y H' N1 N0 hz hD e _ ⟨hy,_⟩ kx _;subst hy;obtain⟨t',ht',rfl⟩:=M9.mp hz;obtain⟨qv,w1,w2⟩:=((ri6 ()).ext e).v t' ((hpm ()).mem_iff.mp ht');have k1':=kx rfl;have a1:=e.at h6d;clear kx k hz wk;simp! only [↓bU,↓bc];intro t9 H9 _ e9 h9;have a19:=e9.at a1;have w29:=e9.at w2;clear a1 w2;ac_rfl;refine uI (k:=.inl t') a19 w1 ?_;ac_rfl;rw [FT];refine⟨az (by simp),λ g H10 e10 h10=>?_⟩;exact k1' _ H10 (e9.trans e10) ⟨g,rfl,h10⟩
   ·intro D zs H7 hD e7 h7 al7;rw [iC] at al7;have hD0:H D=none:=(e5.trans e6).free hD
    have al8:Al (λ z y=>trP z y H7) (ag ms P') zs:=by
     refine⟨by rw [al7.1];unfold ag;rw [length_map,length_map],λ i z y hz hy=>?_⟩;unfold ag at hz;rw [getElem?_map] at hz;obtain⟨t',ht',rfl⟩:=Option.map_eq_some_iff.mp hz;exact al7.2 i (.int t') y (by rw [getElem?_map,ht'];rfl) hy
    have al9:Al (λ z y=>trP z y H7) (ag ms.reverse P') zs.reverse:=by
     have e1:ag ms.reverse P'=(ag ms P').reverse:=by unfold ag;rw [List.map_reverse]
     rw [e1];refine⟨by rw [Oi,Oi];exact al8.1,λ i z y hz hy=>?_⟩;have hi:i < (ag ms P').length:=by have:=(MB.mp hz).1;rw [Oi] at this;exact this
     rw [List.getElem?_reverse hi] at hz;rw [List.getElem?_reverse (by rw [al8.1];exact hi),al8.1] at hy;exact al8.2 _ z y hz hy
    have ko:oE ms.reverse P':=⟨(List.reverse_perm ms).nodup_iff.mpr ((hpm ()).nodup_iff.mpr (ri' ()).nd),by rw [Oi,(hpm ()).length_eq];exact(ri' ()).len,λ t'=>by rw [List.mem_reverse];exact(hpm ()).mem_iff.trans ((ri' ()).mem t'),List.pairwise_reverse.mpr (hord ())⟩;have fin:=k () ms.reverse D (upd H7 D (.lst zs.reverse)) ((e5.trans (e6.trans e7)).put hD0) ⟨_,aj,al9.imp λ _ _ t=>trP.upd t h7⟩ ko;clear al7 al8 al9 wk ko k hD;ac_rfl
def Mu(A B:List (Int × Int))(g:Int):Prop:=∃ ys zs,InA A ys/\InA B zs/\iD A ys=g+iD B zs
theorem pP(x:Int):0<=ar x:=by unfold ar;omega
def axW(a:Int × Int):Int:=ar a.2 * (a.1 - 1)
def wS:List (Int × Int)->Int
 | []=>0
 | a::A=>axW a+wS A
def wLt(t:Int):List (Int × Int)->Int
 | []=>0
 | a::A=>(if ar a.2 < t then axW a else 0)+wLt t A
theorem BD{a:Int × Int}(h:1<=a.1):0<=axW a:=OQ (pP _) %[0|8]
theorem Fc:∀ {A:List (Int × Int)},(∀ a∈A,1<=a.1)->0<=wS A
 | [],_=>M5 _
 | a::A,h=>by
  have:=BD (h a MF);have:=Fc λ b hb=>h b (MD _ hb)
  show 0<=axW a+wS A;omega
structure AxG(A:List (Int × Int)):Prop where
 len:A.length<=4
 sz:∀ a∈A,(1<=a.1/\a.1<=1000000000)/\ar a.2<=10000000000000000/\axW a<=10000000000000000
theorem AxG.one{A:List (Int × Int)}(h:AxG A):∀ a∈A,(1:Int)<=a.1:=λ a ha=>(h.sz a ha).1.1
theorem Fd:∀ {A:List (Int × Int)},(∀ a∈A,axW a<=10000000000000000)->wS A<=10000000000000000 * (A.length:Int)
 | [],_=>by decide
 | a::A,h=>by
  have ih:=Fd (A:=A) λ b hb=>h b (MD _ hb);have:=h a MF;rw [Nc]
  show axW a+wS A<=_
  omega
theorem AxG.wt{A:List (Int × Int)}(h:AxG A):0<=wS A/\wS A<=40000000000000000:=by
 have:=Fd λ a ha=>(h.sz a ha).2.2;have:=h.len;exact⟨Fc h.one,by omega⟩
theorem AxG.bnd{A:List (Int × Int)}(h:AxG A):∀ a∈A,-100000000000000000<=a.2/\a.2<=100000000000000000:=λ a ha=>by
 have h1:=(h.sz a ha).2.1;have h2:a.2<=ar a.2/\-ar a.2<=a.2:=by unfold ar;omega
 omega
theorem AxG.axes{A:List (Int × Int)}(h:AxG A):mn (A.map af):=⟨by rw [MK];have:=h.len;omega,λ a ha=>by
 obtain⟨b,hb,rfl⟩:=M9.mp ha;exact(h.sz b hb).1⟩
theorem AxK.g{A:List (Int × Int)}(h:AxK A):AxG A:=⟨by have:=h.len;omega,λ a ha=>by
 obtain⟨h1,h2⟩:=h.sz a ha;have e:ar a.2<=36/\0<=ar a.2:=by unfold ar;omega
 have m:=Pj e.1 (show a.1 - 1<=4 by omega) %[0|8] ⋯;exact⟨by omega,by omega,by show ar a.2 * (a.1 - 1)<=_;omega⟩⟩
theorem pJ:∀ {A:List (Int × Int)}{ys:List Int},InA (A.map af) ys->InA A ys
 | [],[],_=>trivial
 | [],_::_,h=>h.elim
 | _::_,[],h=>h.elim
 | _::_,_::_,h=>⟨h.1,pJ h.2⟩
theorem lA:∀ {A:List (Int × Int)}{ys:List Int},InA A ys->iD (A.map af) ys=iD A ys
 | [],[],_=>rfl
 | [],_::_,h=>h.elim
 | _::_,[],h=>h.elim
 | a::A,y::ys,h=>by
  show (if a.1 > 1 then a.2 else 0) * y+iD (A.map af) ys=a.2 * y+iD A ys
  rw [lA h.2]
  by_cases h1:a.1 > 1
  ·rw [MI h1]
  ·have hy:y=0:=by have:=h.1;omega
   rw [MH h1,hy,NG,NG]
theorem wb:∀ {P:List (Int × Int)}{z:Int × Int},(∀ y∈P,(1:Int)<=y.2)->z∈P->z.2 - 1<=gB P (ar z.1)
 | y::P,z,h,hz=>by
  have hP:∀ x∈P,(1:Int)<=x.2:=λ x hx=>h x (MD _ hx);have hn:=qH hP (ar z.1);have hy:=h y MF;rw [fk]
  rcases MU.mp hz with rfl|hz
  ·rw [MI rfl];omega
  ·have:=wb hP hz
   split<;>omega
theorem BC:∀ {P:List (Int × Int)},(∀ y∈P,1<=y.2/\y.2<=1000000000)->∀ t,gB P t<=999999999 * (P.length:Int)
 | [],_,t=>M5 0
 | y::P,h,t=>by
  have ih:=BC (P:=P) (λ x hx=>h x (MD _ hx)) t;have hy:=h y MF;rw [fk,Nc]
  split<;>omega
theorem vf:∀ {P:List (Int × Int)},(∀ y∈P,(1:Int)<=y.2)->∀ t,eh P t<=0/\0<=cc P t
 | [],_,_=>⟨M5 _,M5 _⟩
 | y::P,h,t=>by
  have ih:=vf (P:=P) (λ x hx=>h x (MD _ hx)) t;have hy:=h y MF
  have l1:loP y<=0:=by unfold loP;split<;>omega
  have l2:0<=hiP y:=by unfold hiP;split<;>omega
  show (if ar y.1=t then loP y else 0)+eh P t<=0/\0<=(if ar y.1=t then hiP y else 0)+cc P t
  split<;>omega
theorem qY{A B:List (Int × Int)}{z:Int × Int}(hz:z∈ao A B):∃ a,(a∈A\/a∈B)/\ar z.1=ar a.2/\z.2=a.1/\(z.1=0 ↔ a.2=0):=by
 unfold ao at hz
 rcases Nj.mp hz with hz|hz
 ·obtain⟨a,ha,rfl⟩:=M9.mp hz;exact⟨a,.inl ha,rfl,rfl,Iff.rfl⟩
 ·obtain⟨a,ha,rfl⟩:=List.mem_map.mp hz;exact⟨a,.inr ha,by show ar (-a.2)=_;unfold ar;omega,rfl,by show -a.2=0 ↔ _;omega⟩
theorem AxG.tms{A B:List (Int × Int)}{ks:List Int}(hA:AxG A)(hB:AxG B)(hk:oE ks (ao (A.map af) (B.map af))):cK (ag ks (ao (A.map af) (B.map af)))/\ks.length<=8:=by
 have sz:∀ z∈ao (A.map af) (B.map af),(1<=z.2/\z.2<=1000000000)/\(z.1 ≠ 0->2<=z.2)/\ar z.1<=10000000000000000:=λ z hz=>by
  obtain⟨a,ha,e1,e2,e3⟩:=qY hz
  obtain⟨b,rfl,hb⟩:∃ b,a=af b/\((1<=b.1/\b.1<=1000000000)/\ar b.2<=10000000000000000/\axW b<=10000000000000000):=by
   rcases ha with ha|ha
   ·obtain⟨b,hb,rfl⟩:=M9.mp ha;exact⟨b,rfl,hA.sz b hb⟩
   ·obtain⟨b,hb,rfl⟩:=M9.mp ha;exact⟨b,rfl,hB.sz b hb⟩
  have e4:z.2=b.1:=e2;refine⟨by omega,λ h0=>?_,?_⟩
  ·rw [e4];apply OR;intro hn;exact h0 (e3.mpr (MH %[0|8]))
  ·rw [e1]
   show ar (if b.1 > 1 then b.2 else 0)<=_
   split
   ·exact hb.2.1
   ·decide
 have one:∀ y∈ao (A.map af) (B.map af),(1:Int)<=y.2:=λ y hy=>(sz y hy).1.1
 have hlen:(ao (A.map af) (B.map af)).length<=8:=by
  unfold ao;rw [length_append,length_map,length_map,length_map,length_map];have:=hA.len;have:=hB.len;omega
 have hkl:=hk.len;refine⟨⟨by unfold ag;rw [length_map];omega,λ z hz=>?_⟩,by omega⟩;unfold ag at hz;obtain⟨t,ht,rfl⟩:=List.mem_map.mp hz;obtain⟨t0,y,hy,e⟩:=(hk.mem t).mp ht;have hs:=sz y hy;have y0:y.1 ≠ 0:=λ q=>t0 (by rw [←e,q];rfl);have h2:=hs.2.1 y0;have h3:=hs.2.2;have hc:=wb one hy;have hc2:=BC (λ x hx=>(sz x hx).1) t;have hl:=vf one t;have hhl:=ir (ao (A.map af) (B.map af)) t;rw [e] at hc h3;have ht':=pP y.1;rw [e] at ht'
 show (1<=t/\t<=2000000000000000000)/\(-20000000000<=eh (ao (A.map af) (B.map af)) t/\eh (ao (A.map af) (B.map af)) t<=20000000000)/\eh (ao (A.map af) (B.map af)) t < cc (ao (A.map af) (B.map af)) t/\cc (ao (A.map af) (B.map af)) t<=20000000000
 omega
theorem iT:∀ l:List (Int × Int),(∀ a∈l,(1:Int)<=a.1)->bP (l.map af)=bP l/\bQ (l.map af)=bQ l
 | [],_=>⟨rfl,rfl⟩
 | a::r,h=>by
  obtain⟨i1,i2⟩:=iT r λ b hb=>h b (MD _ hb);have ha:=h a MF
  have e:((af a).1 - 1) * (af a).2=(a.1 - 1) * a.2:=by
   show (a.1 - 1) * (if a.1 > 1 then a.2 else 0)=_
   split
   ·rfl
   ·have:a.1=1:=by omega
    rw [this];simp
  rw [Nf,fW,fY,fW,fY,e,i1,i2];exact⟨rfl,rfl⟩
theorem vm:∀ {A:List (Int × Int)},(∀ a∈A,1<=a.1)->(-wS A<=bP A/\bP A<=0)/\(0<=bQ A/\bQ A<=wS A)
 | [],_=>by decide
 | a::A,h=>by
  have ih:=vm (A:=A) λ b hb=>h b (mem_cons_of_mem _ hb);have s:=h a mem_cons_self;have e:axW a=ar a.2 * (a.1 - 1):=rfl;have u1:=Int.mul_le_mul_of_nonneg_left (show a.2<=ar a.2 by unfold ar;omega) (show 0<=a.1 - 1 by omega);have u2:=Int.mul_le_mul_of_nonneg_left (show -ar a.2<=a.2 by unfold ar;omega) (show 0<=a.1 - 1 by omega);have n:=BD (a:=a) s;rw [Int.mul_neg] at u2;rw [fW,fY];rw [Int.mul_comm (a.1 - 1) (ar a.2),←e] at u1 u2
  show (-(axW a+wS A)<=_/\_)/\_/\_<=axW a+wS A
  generalize (a.1 - 1) * a.2=x at *;omega
def AxV(H:Hp)(Z:List (Int × Int))(x:V):Prop:=∃ l,x=.ref l/\cI H l Z/\AxG Z
theorem AxV.ext{H H':Hp}{Z:List (Int × Int)}{x:V}(h:AxV H Z x)(e:Ext H H'):AxV H' Z x:=by
 obtain⟨l,h1,h2,h3⟩:=h;exact⟨l,h1,ay h2 e,h3⟩
abbrev js(C:Addr)(p:Addr)(q:Addr)(g:Int)(lo:Int)(mo:Int)(H:Hp)(Q:VK)(E:XK):Prop:=∃ A B:List (Int × Int),cI H p A/\cI H q B/\AxG A/\AxG B/\(0<=lo/\lo < 4)/\(0<=mo/\mo < 4)/\(-100000000000001000<=g/\g<=100000000000001000)/\∀ (room f:Int) (x1 x2 r:Addr) (H':Hp),Ext H H'->H' r=some (.tup [.ref x1,.ref x2])->aJ C H' x1 room f (A.map af)->aJ C H' x2 room (f+g) (B.map af)->mG room (f+g) B->room<=900000000000000000->Q (.ref r) H'
def iV(C:Addr):Sp:=λ vs H Q E=>∃ (p:Addr) (q:Addr) (g:Int) (lo:Int) (mo:Int),vs=[.ref p,.ref q,.int g,.int lo,.int mo]/\(js C p q g lo mo H Q E)
theorem qd(C:Addr)(p:Addr)(q:Addr)(g:Int)(lo:Int)(mo:Int)(H:Hp)(Q:VK)(E:XK):iV C [.ref p,.ref q,.int g,.int lo,.int mo] H Q E=(js C p q g lo mo H Q E):=Jg (f:=λ (p:Addr) (q:Addr) (g:Int) (lo:Int) (mo:Int)=>[.ref p,.ref q,.int g,.int lo,.int mo]) (λ _ _ _ _ _ _ _ _ _ _ h=>by cases h;exact⟨rfl,rfl,rfl,rfl,rfl⟩) p q g lo mo
theorem p6(C:Addr){vs:List V}{H:Hp}{Q:VK}{E:XK}(h:iV C vs H Q E):vs.length=5:=Jh h λ _ _ _ _ _=>rfl
theorem jF(T:Tx K mg t):bj P w K mg base CX0 8 t.a__law_placed t.d__law_placed ["_law_one", "_law_other", "_law_goal", "_law_low", "_law_more"] (iV t.a_View):=by
 have G_View___init__:=%[eJ|47];refine T.F__law_placed.ok b7 (λ vs H Q E h=>p6 _ h) (λ cdv A' outer s H vs Q E hr h=>?_)
 ·obtain⟨p,q,g,lo,mo,rfl,A,B,pA,pB,kA,kB,hlo,hmo,hg,k⟩:=h;refine⟨_,%[%[(["_law_axes_here", "_law_one", "_law_other", "_law_goal", "_law_low", "_law_more", "_law_least", "_law_greatest", "_law_first", "_law_room"]),(1),(5),_,b7.nd,rfl,(Or.inl rfl),(aK (aa b5) ["_law_one", "_law_other", "_law_goal", "_law_low", "_law_more", "_law_least", "_law_greatest", "_law_first", "_law_room"] rfl rfl nofun),rfl,%[%[%[%[0|0],%[%[1|0]|1]|1]|19]|23],(λ C s₀ H₀ ex pn=>%[(0),_,(show List.Nodup (["_law_axes_here", "_law_one", "_law_other", "_law_goal", "_law_low", "_law_more", "_law_least", "_law_greatest", "_law_first", "_law_room"]:List Str) from by decide +kernel),rfl,(Or.inl rfl),%[0|7]|18]),(λ C s₀ H₀ ex pn=>(@aM _)),(λ C s₀ H₀ ex pn=>%[sum,(bZ rfl),%[%[(["_law_size", "_law_pace", "_law_axes_here", "_law_one", "_law_other", "_law_goal", "_law_low", "_law_more", "_law_least", "_law_greatest", "_law_first", "_law_room"]),(2),(aK _ ["_law_axes_here", "_law_one", "_law_other", "_law_goal", "_law_low", "_law_more", "_law_least", "_law_greatest", "_law_first", "_law_room"] rfl rfl (by kernel_rfl)),rfl,(@vG _ _ _ _ (K) rfl %[0|0]),(λ C s₀ H₀ ex pn=>(%[(2),rfl,%[%[(0),_,(show List.Nodup (["_law_size", "_law_pace", "_law_axes_here", "_law_one", "_law_other", "_law_goal", "_law_low", "_law_more", "_law_least", "_law_greatest", "_law_first", "_law_room"]:List Str) from by decide +kernel),rfl,(Or.inl rfl),%[0|7]|18],%[%[(1),_,(show List.Nodup (["_law_size", "_law_pace", "_law_axes_here", "_law_one", "_law_other", "_law_goal", "_law_low", "_law_more", "_law_least", "_law_greatest", "_law_first", "_law_room"]:List Str) from by decide +kernel),rfl,(Or.inl rfl),%[0|7]|18],(@aw _),∅|15],∅|15],∅,∅|20].mono λ _ _ _ _ h=>aX h)),(λ C s₀ H₀ ex pn=>(@aM _)),(λ C s₀ H₀ ex pn=>%[min,(cU rfl),%[%[0|2],%[%[bO,%[1|0],%[aB,%[0|0],%[0|2]|10]|10]|1]|1]|6]),(by intros;rfl)|27]|1]|6]),∅,(by intros;rfl),%[0|7]|45],%[%[(["_law_axes_here", "_law_one", "_law_other", "_law_goal", "_law_low", "_law_more", "_law_least", "_law_greatest", "_law_first", "_law_room"]),(1),(6),_,b7.nd,rfl,(Or.inl rfl),(aK (aa b5) ["_law_one", "_law_other", "_law_goal", "_law_low", "_law_more", "_law_least", "_law_greatest", "_law_first", "_law_room"] rfl rfl nofun),rfl,%[%[%[%[0|0],%[%[1|0]|1]|1]|19]|23],(λ C s₀ H₀ ex pn=>%[(0),_,(show List.Nodup (["_law_axes_here", "_law_one", "_law_other", "_law_goal", "_law_low", "_law_more", "_law_least", "_law_greatest", "_law_first", "_law_room"]:List Str) from by decide +kernel),rfl,(Or.inl rfl),%[0|7]|18]),(λ C s₀ H₀ ex pn=>(@aM _)),(λ C s₀ H₀ ex pn=>%[sum,(bZ rfl),%[%[(["_law_size", "_law_pace", "_law_axes_here", "_law_one", "_law_other", "_law_goal", "_law_low", "_law_more", "_law_least", "_law_greatest", "_law_first", "_law_room"]),(2),(aK _ ["_law_axes_here", "_law_one", "_law_other", "_law_goal", "_law_low", "_law_more", "_law_least", "_law_greatest", "_law_first", "_law_room"] rfl rfl (by kernel_rfl)),rfl,(@vG _ _ _ _ (K) rfl %[0|0]),(λ C s₀ H₀ ex pn=>(%[(2),rfl,%[%[(0),_,(show List.Nodup (["_law_size", "_law_pace", "_law_axes_here", "_law_one", "_law_other", "_law_goal", "_law_low", "_law_more", "_law_least", "_law_greatest", "_law_first", "_law_room"]:List Str) from by decide +kernel),rfl,(Or.inl rfl),%[0|7]|18],%[%[(1),_,(show List.Nodup (["_law_size", "_law_pace", "_law_axes_here", "_law_one", "_law_other", "_law_goal", "_law_low", "_law_more", "_law_least", "_law_greatest", "_law_first", "_law_room"]:List Str) from by decide +kernel),rfl,(Or.inl rfl),%[0|7]|18],(@aw _),∅|15],∅|15],∅,∅|20].mono λ _ _ _ _ h=>aX h)),(λ C s₀ H₀ ex pn=>(@aM _)),(λ C s₀ H₀ ex pn=>%[max,(cV rfl),%[%[0|2],%[%[bO,%[1|0],%[aB,%[0|0],%[0|2]|10]|10]|1]|1]|6]),(by intros;rfl)|27]|1]|6]),∅,(by intros;rfl),%[0|7]|45],%[%[7,b7,%[aD,%[max,(cV rfl),%[%[aB,%[0|2],%[aH,%[5|0],%[0|2],(λ _ _=>rfl)|12]|10],%[%[aB,%[aB,%[0|2],%[2|0]|10],%[aH,%[5|0],%[0|2],(λ _ _=>rfl)|12]|10]|1]|1]|6],%[3|0]|10]|4],%[%[8,b7,%[aD,%[aD,%[max,(cV rfl),%[%[aD,%[7|0],%[aH,%[6|0],%[0|2],(λ _ _=>rfl)|12]|10],%[%[aD,%[aD,%[7|0],%[2|0]|10],%[aH,%[6|0],%[0|2],(λ _ _=>rfl)|12]|10]|1]|1]|6],%[0|2]|10],%[4|0]|10]|4],%[%[%[%[%[T.mk_View,G_View___init__,(hr.mono ⋯),∅,T.m_View,T.b_View___init__,.nil,oK,%[%[8|0],%[%[7|0],%[%[dY,∅,T.z_list,nofun,%[%[0|0]|1],⋯,⋯,∅,∅|38]|1]|1]|1],⋯,∅,∅|46],%[%[T.mk_View,G_View___init__,(hr.mono ⋯),∅,T.m_View,T.b_View___init__,.nil,oK,%[%[8|0],%[%[aD,%[7|0],%[2|0]|10],%[%[dY,∅,T.z_list,nofun,%[%[1|0]|1],⋯,⋯,∅,∅|38]|1]|1]|1],⋯,∅,∅|46]|1]|1]|17]|13]|11]|9]|9]|9]|9],?_⟩;rw [show aE ["_law_one", "_law_other", "_law_goal", "_law_low", "_law_more", "_law_least", "_law_greatest", "_law_first", "_law_room"] [.ref p,.ref q,.int g,.int lo,.int mo]=[some (.ref p),some (.ref q),some (.int g),some (.int lo),some (.int mo),none,none,none,none] from rfl];clear G_View___init__;obtain⟨ta,hpa,alA⟩:=pA;obtain⟨tb,hqb,alB⟩:=pB;exists k;exists alA;exists alB;ac_rfl;intro l1 H1 hl1 e1 h1;have cA:AxV H1 A (.ref p):=⟨p,rfl,⟨ta,e1.at hpa,(alA ()).imp λ _ _ t=>axP.ext t e1⟩,kA⟩;have cB:AxV H1 B (.ref q):=⟨q,rfl,⟨tb,e1.at hqb,(alB ()).imp λ _ _ t=>axP.ext t e1⟩,kB⟩;have al1:Al (λ Z y=>AxV H1 Z y) [A,B] [.ref p,.ref q]:=Al.cons' cA (Al.cons' cB Al.nil);have wk:=fK (K:=K) (R:=λ Z x H'=>AxV H' Z x) (λ _ _ _ _ h e=>h.ext e) h1 al1;exists cA;exists cB;clear hl1 al1;ac_rfl;refine bH [A,B] (λ _=>true) (λ Z=>.int (bP Z)) (λ Z x H'=>AxV H' Z x) wk.1 wk.2 (az (by simp)) ?_ ?_
  ·intro D Z x H' N1 N0 hZ hD e hx k1 _;obtain⟨lz,rfl,⟨tz,hlz,alz⟩,kz⟩:=hx;have k1':=λ (_:Unit)=>k1 rfl;have hz3:=kz.len;have kzs:=λ (_:Unit)=>kz.sz;have wk2:=fK (K:=K) (R:=axP) (λ _ _ _ _ h e=>h.ext e) hlz alz;clear k1 wk k cA cB;simp! only [↓bU,↓bc];refine bH Z (λ _=>true) (λ a=>.int (min 0 ((a.1 - 1) * a.2))) axP wk2.1 wk2.2 (az %[0|8]) ?_ ?_
   ·intro D2 a x H2 M1 M0 ha hD2 e2 ⟨aq,hx,haq⟩ k2 _;subst hx;have k2':M1 (.int (min 0 ((a.1 - 1) * a.2))) H2:=k2 rfl H2 (Ext.refl _);have hz:=kzs () a ha;have cm:iE a.2 (a.1 - 1):=.inr ⟨by omega,by omega⟩;rw [Ll,OM] at k2';clear k2 ha wk2 k1';simp! only [↓cC,↓bc]
   ·intro D2 H2 hD2 e2 h2;have h2':H2 D2=some (.lst ((Z.map λ a=>min 0 ((a.1 - 1) * a.2)).map V.int)):=by rw [h2,iC,NO];rfl
    have hsum:(Z.map λ a=>min 0 ((a.1 - 1) * a.2)).sum=bP Z:=rfl;have k3:=k1' () H2 e2;clear h2 wk2 k1';ac_rfl
  intro D3 H3 hD3 e3 h3;rw [iC] at h3;have h3':H3 D3=some (.lst [.int (bP A),.int (bP B)]):=h3;clear h3 wk hD3;ac_rfl;intro l4 H4 _ e4 h4;have cA4:AxV H4 A (.ref p):=(cA ()).ext (e3.trans e4);have cB4:AxV H4 B (.ref q):=(cB ()).ext (e3.trans e4);have wk:=fK (K:=K) (R:=λ Z x H'=>AxV H' Z x) (λ _ _ _ _ h e=>h.ext e) h4 (Al.cons' cA4 (Al.cons' cB4 Al.nil));have h3_4:=e4.at h3';clear cA4 cB4 h3';ac_rfl;refine bH [A,B] (λ _=>true) (λ Z=>.int (bQ Z)) (λ Z x H'=>AxV H' Z x) wk.1 wk.2 (az (by simp)) ?_ ?_
  ·intro D Z x H' N1 N0 hZ hD e hx k1 _;obtain⟨lz,rfl,⟨tz,hlz,alz⟩,kz⟩:=hx;have k1':=λ (_:Unit)=>k1 rfl;have hz3:=kz.len;have kzs:=λ (_:Unit)=>kz.sz;have wk2:=fK (K:=K) (R:=axP) (λ _ _ _ _ h e=>h.ext e) hlz alz;clear k1 wk k cA cB;simp! only [↓bU,↓bc];refine bH Z (λ _=>true) (λ a=>.int (max 0 ((a.1 - 1) * a.2))) axP wk2.1 wk2.2 (az %[0|8]) ?_ ?_
   ·intro D2 a x H2 M1 M0 ha hD2 e2 ⟨aq,hx,haq⟩ k2 _;subst hx;have k2':M1 (.int (max 0 ((a.1 - 1) * a.2))) H2:=k2 rfl H2 (Ext.refl _);have hz:=kzs () a ha;have cm:iE a.2 (a.1 - 1):=.inr ⟨by omega,by omega⟩;rw [Lm,OM] at k2';clear k2 ha wk2 k1';simp! only [↓cC,↓bc]
   ·intro D2 H2 hD2 e2 h2;have h2':H2 D2=some (.lst ((Z.map λ a=>max 0 ((a.1 - 1) * a.2)).map V.int)):=by rw [h2,iC,NO];rfl
    have hsum:(Z.map λ a=>max 0 ((a.1 - 1) * a.2)).sum=bQ Z:=rfl;have k3:=k1' () H2 e2;clear h2 wk2 k1';ac_rfl
  intro D5 H5 hD5 e5 h5;rw [iC] at h5;have h5':H5 D5=some (.lst [.int (bQ A),.int (bQ B)]):=h5;have h3_5:=e5.at h3_4;clear h5 wk hD5 h3_4;obtain⟨⟨la1,la2⟩,la3,la4⟩:=vm (λ a ha=>by have:=(kA.sz a ha).1;omega);obtain⟨⟨lb1,lb2⟩,lb3,lb4⟩:=vm (λ a ha=>by have:=(kB.sz a ha).1;omega);have nA:=kA.len;have nB:=kB.len;have wA0:=kA.wt;have wB0:=kB.wt;have axA:mn A:=⟨by omega,λ a ha=>by have:=(kA.sz a ha).1;omega⟩;have axB:mn B:=⟨by omega,λ a ha=>by have:=(kB.sz a ha).1;omega⟩;obtain⟨sA1,sA2⟩:=iT A λ a ha=>(axA.2 a ha).1;obtain⟨sB1,sB2⟩:=iT B λ a ha=>(axB.2 a ha).1;have e05:=e1.trans (e3.trans (e4.trans e5));have hpa5:=e05.at hpa;have hqb5:=e05.at hqb;obtain⟨fx,hfx⟩:∃ fx,(if 0 - bP A < 0 - g - bP B then 0 - g - bP B else 0 - bP A)=fx:=⟨_,rfl⟩
  have fx1:0 - bP A<=fx/\0 - g - bP B<=fx/\fx<=250000000000000000:=by rw [←hfx];split<;>omega
  obtain⟨f,hf⟩:∃ f,fx+lo=f:=⟨_,rfl⟩;obtain⟨lx,hlx⟩:∃ lx,(if f+bQ A < f+g+bQ B then f+g+bQ B else f+bQ A)=lx:=⟨_,rfl⟩
  have lx1:f+bQ A<=lx/\f+g+bQ B<=lx/\lx<=600000000000000000:=by rw [←hlx];split<;>omega
  obtain⟨room,hroom⟩:∃ room,lx+1+mo=room:=⟨_,rfl⟩;have vA:mG room f A:=⟨axA,by omega,by omega,by rw [sA1];omega,by rw [sA2];omega⟩;have hrb:room<=900000000000000000:=by omega
  have vB:mG room (f+g) B:=⟨axB,by omega,by omega,by rw [sB1];omega,by rw [sB2];omega⟩;clear wA0 wB0 la1 la2 la3 la4 lb1 lb2 lb3 lb4 sA1 sA2 sB1 sB2 axA axB fx1 lx1 nA nB cA cB;ac_rfl;intro q6 H6 _ e6 h6;have hqb6:=e6.at hqb5;have al6:Al (λ z y=>axP z y H6) A ta:=(alA ()).imp λ _ _ t=>axP.ext t (e05.trans e6);clear hpa5;ac_rfl;intro x1 dx1 G1 hx1 hdx1 hne1 g1 k1 k1';rw [jd];refine⟨dx1,A,k1,dO.ext ⟨ta,h6,uG al6⟩ g1,vA,λ G2 D2 g2' hD2 hx2 tt2=>?_⟩;have eg:=g2' H6 g1 hx1;have vo1:aJ t.a_View G2 x1 room f (A.map af):=⟨dx1,D2,hx2,tt2⟩;have hqb7:=eg.at hqb6;have e07:=e05.trans (e6.trans eg);clear h6 al6 hqb6 k1 k1' hx1 hdx1 hne1 g1 g2' hD2 hx2 tt2;ac_rfl;intro q8 G3 _ e8 h8;have al8:Al (λ z y=>axP z y G3) B tb:=(alB ()).imp λ _ _ t=>axP.ext t (e07.trans e8);clear hqb7;ac_rfl;intro x2 dx2 G4 hx2 hdx2 hne2 g4 k4 k4';rw [jd];refine⟨dx2,B,k4,dO.ext ⟨tb,h8,uG al8⟩ g4,vB,λ G5 D5' g5' hD5 hx5 tt5=>?_⟩;have eg2:=e8.trans (g5' G3 g4 hx2);have vo2:aJ t.a_View G5 x2 room (f+g) (B.map af):=⟨dx2,D5',hx5,tt5⟩;clear h8 al8 k4 k4' hx2 hdx2 hne2 g4 g5' hD5 hx5 tt5;ac_rfl;intro rr G6 _ e9 h9;exact k () room f x1 x2 rr G6 (e07.trans (eg2.trans e9)) h9 (vo1.ext (eg2.trans e9)) (vo2.ext e9) vB hrb
theorem vp{zs:List Tm3}{cs:List (Int × Int)}(h:cs.length=zs.length):zs.zip cs=(List.range zs.length).map λ k=>(zs.getD k default,cs.getD k default):=by
 apply List.ext_getElem?;intro i;rw [MZ]
 by_cases hi:i < zs.length
 ·rw [List.getElem?_range hi]
  show _=some (zs.getD i default,cs.getD i default)
  rw [Nw,MP,MP,Mx hi,Mx (show i < cs.length by omega)];exact⟨rfl,rfl⟩
 ·rw [NR (by rw [NJ];omega),NR (by rw [OV];omega)];rfl
theorem zN{zs:List Tm3}{cs:List (Int × Int)}(h:cs.length=zs.length):((List.range zs.length).map λ k=>(zs.getD k default).1 * (cs.getD k default).1).sum=bJ zs cs/\((List.range zs.length).map λ k=>(zs.getD k default).1 * (cs.getD k default).2).sum=cE zs cs:=by
 unfold bJ cE;rw [vp h,map_map,map_map];exact⟨rfl,rfl⟩
theorem qT{zs:List Tm3}{cs:List (Int × Int)}(h:cs.length=zs.length):(((List.range zs.length).filter λ k=>decide ((cs.getD k default).1 < (cs.getD k default).2)).map λ k=>(zs.getD k default).1)=dM zs cs:=by
 unfold dM;rw [vp h,List.filter_map,map_map];rfl
theorem Fe{zs:List Tm3}(h:cK zs){k:Nat}(hk:k < zs.length):1<=(zs.getD k default).1/\(zs.getD k default).1<=2000000000000000000:=by
 rw [MP,Mx hk];exact(h.all _ (Nx hk)).1
abbrev nz  (p:Addr) (q:Addr) (H:Hp) (Q:VK) (E:XK):Prop:=∃ (zs:List Tm3) (cs:List (Int × Int)),gA H p zs/\cI H q cs/\cK zs/\cs.length=zs.length/\∀ (r:Addr) (H':Hp),Ext H H'->H' r=some (.tup [.int (bJ zs cs),.int (cE zs cs)])->Q (.ref r) H'
def oX  : Sp:=λ vs H Q E=>∃ (p:Addr) (q:Addr),vs=[.ref p,.ref q]/\(nz  p q H Q E)
theorem cW  (p:Addr) (q:Addr) (H:Hp) (Q:VK) (E:XK):oX  [.ref p,.ref q] H Q E=(nz  p q H Q E):=qj (f:=λ (p:Addr) (q:Addr)=>[.ref p,.ref q]) (λ _ _ _ _ h=>by cases h;exact⟨rfl,rfl⟩) p q
theorem xl  {vs:List V}{H:Hp}{Q:VK}{E:XK}(h:oX  vs H Q E):vs.length=2:=qm h λ _ _=>rfl
theorem dq(T:Tx K mg t):bj P w K mg base CX0 1 t.a__law_sums t.d__law_sums ["_law_terms_here", "_law_case"] oX:=by
 refine T.F__law_sums.ok jo (λ vs H Q E h=>xl h) (λ c A o s H vs Q E hr h=>?_)
 ·obtain⟨p,q,rfl,zs,cs,⟨ts,hp,al⟩,⟨xs,hq,bl⟩,ht,hcl,k⟩:=h;refine⟨_,%[%[2,jo,%[sum,(bZ rfl),%[%[(["_law_k", "_law_terms_here", "_law_case", "_law_least"]),(1),(aK (aa cY) ["_law_terms_here", "_law_case", "_law_least"] rfl rfl nofun),rfl,(@dP _ _ _ _ _ _ ∅ T.z_range %[%[len,aA,%[%[0|0]|1]|6]|1] ∅),(λ C s₀ H₀ ex pn=>%[(0),_,(show List.Nodup (["_law_k", "_law_terms_here", "_law_case", "_law_least"]:List Str) from by decide +kernel),rfl,(Or.inl rfl),%[0|7]|18]),(λ C s₀ H₀ ex pn=>(@aM _)),(λ C s₀ H₀ ex pn=>%[bO,%[aH,%[aH,%[1|0],%[0|0],(λ _ _=>rfl)|12],%[0|2],(λ _ _=>rfl)|12],%[aH,%[aH,%[2|0],%[0|0],(λ _ _=>rfl)|12],%[0|2],(λ _ _=>rfl)|12]|10]),(by intros;rfl)|27]|1]|6]|4],%[%[%[%[%[2|0],%[%[sum,(bZ rfl),%[%[(["_law_k", "_law_terms_here", "_law_case", "_law_least"]),(1),(aK (aa cY) ["_law_terms_here", "_law_case", "_law_least"] rfl rfl nofun),rfl,(@dP _ _ _ _ _ _ ∅ T.z_range %[%[len,aA,%[%[0|0]|1]|6]|1] ∅),(λ C s₀ H₀ ex pn=>%[(0),_,(show List.Nodup (["_law_k", "_law_terms_here", "_law_case", "_law_least"]:List Str) from by decide +kernel),rfl,(Or.inl rfl),%[0|7]|18]),(λ C s₀ H₀ ex pn=>(@aM _)),(λ C s₀ H₀ ex pn=>%[bO,%[aH,%[aH,%[1|0],%[0|0],(λ _ _=>rfl)|12],%[0|2],(λ _ _=>rfl)|12],%[aH,%[aH,%[2|0],%[0|0],(λ _ _=>rfl)|12],%[0|2],(λ _ _=>rfl)|12]|10]),(by intros;rfl)|27]|1]|6]|1]|1]|17]|13]|11]|9],?_⟩;rw [show aE ["_law_terms_here", "_law_case", "_law_least"] [.ref p,.ref q]=[some (.ref p),some (.ref q),none] from rfl];have h17:=ht.len;have htl:ts.length=zs.length:=al.1;obtain⟨sm1,sm2⟩:=zN hcl;exists k;exists al;exists bl;exists sm1;exists sm2;ac_rfl;refine⟨by omega,by omega,?_⟩;refine bH (List.range ((zs.length:Int)).toNat) (λ _=>true) (λ k=>.int ((zs.getD k default).1 * (cs.getD k default).1)) (λ j x H'=>x=.int (0+(j:Nat))) jK.1 jK.2 (az (by rw [OV];omega)) ?_ ?_
  ·intro D k x H' N1 N0 hk hD e hx k1 _;subst hx;have hkr:=N8.mp hk;have hkz:k < zs.length:=by omega
   have hkc:k < cs.length:=by omega
   obtain⟨c1,c2,hu⟩:=gR (bl ()) hkc;obtain⟨z1,z2,hz⟩:=mz (al ()) hkz;have hp':=e.at hp;have hq':=e.at hq;have hu':=e.at hu;have hz':=e.at hz;have tt:=Fe ht hkz;have k1':N1 (.int ((zs.getD k default).1 * (cs.getD k default).1)) H':=k1 rfl H' (Ext.refl _);have cm:iE (zs.getD k default).1 (cs.getD k default).1:=.inl ⟨by omega,by omega⟩;generalize zs.getD k default=zi at *;generalize cs.getD k default=ci at *;clear k1 hk hp hq hu hz sm1 sm2;simp! only [↓bU,↓bc]
  intro D H1 hD e1 h1;rw [iC,Nv,show ((List.range zs.length).map λ k=>V.int ((zs.getD k default).1 * (cs.getD k default).1))=((List.range zs.length).map λ k=>(zs.getD k default).1 * (cs.getD k default).1).map V.int by rw [NO];rfl] at h1;have hp1:=e1.at hp;have sm1':=sm1 ();generalize ((List.range zs.length).map λ k=>(zs.getD k default).1 * (cs.getD k default).1)=ls at h1 sm1';clear hD sm1;ac_rfl;refine⟨by omega,by omega,?_⟩;clear sm1' h1;refine bH (List.range ((zs.length:Int)).toNat) (λ _=>true) (λ k=>.int ((zs.getD k default).1 * (cs.getD k default).2)) (λ j x H'=>x=.int (0+(j:Nat))) jK.1 jK.2 (az (by rw [OV];omega)) ?_ ?_
  ·intro D k x H' N1 N0 hk hD e hx k1 _;subst hx;have hkr:=N8.mp hk;have hkz:k < zs.length:=by omega
   have hkc:k < cs.length:=by omega
   obtain⟨c1,c2,hu⟩:=gR (bl ()) hkc;obtain⟨z1,z2,hz⟩:=mz (al ()) hkz;have hp':=e.at hp1;have hq':=(e1.trans e).at hq;have hu':=(e1.trans e).at hu;have hz':=(e1.trans e).at hz;have tt:=Fe ht hkz;have k1':N1 (.int ((zs.getD k default).1 * (cs.getD k default).2)) H':=k1 rfl H' (Ext.refl _);have cm:iE (zs.getD k default).1 (cs.getD k default).2:=.inl ⟨by omega,by omega⟩;generalize zs.getD k default=zi at *;generalize cs.getD k default=ci at *;clear k1 hk hp hq hu hz hp1 sm2;simp! only [↓bU,↓bc]
  intro D2 H2 hD2 e2 h2;rw [iC,Nv,show ((List.range zs.length).map λ k=>V.int ((zs.getD k default).1 * (cs.getD k default).2))=((List.range zs.length).map λ k=>(zs.getD k default).1 * (cs.getD k default).2).map V.int by rw [NO];rfl] at h2;have sm2':=sm2 ();generalize ((List.range zs.length).map λ k=>(zs.getD k default).1 * (cs.getD k default).2)=gs at h2 sm2';clear hD2 sm2;ac_rfl;intro r3 H3 _ e3 h3;exact k () r3 H3 (e1.trans (e2.trans e3)) h3
abbrev rZ  (p:Addr) (H:Hp) (Q:VK) (E:XK):Prop:=∃ ns:List Int,H p=some (.lst (ns.map V.int))/\(∀ n∈ns,0<=n)/\Q (.int (jD ns)) H
def uT  : Sp:=λ vs H Q E=>∃ (p:Addr),vs=[.ref p]/\(rZ  p H Q E)
theorem AZ  (p:Addr) (H:Hp) (Q:VK) (E:XK):uT  [.ref p] H Q E=(rZ  p H Q E):=qk (f:=λ (p:Addr)=>[.ref p]) (λ _ _ h=>by cases h;exact rfl) p
theorem zY  {vs:List V}{H:Hp}{Q:VK}{E:XK}(h:uT  vs H Q E):vs.length=1:=oF h λ _=>rfl
theorem jx(T:Tx K mg t):bj P w K mg base CX0 1 t.a__law_divisor t.d__law_divisor ["_law_numbers"] uT:=by
 refine T.F__law_divisor.ok bw (λ vs H Q E h=>zY h) (λ c A o s H vs Q E hr h=>?_)
 ·obtain⟨p,rfl,ns,hp,hn,k⟩:=h;refine⟨_,%[%[1,bw,%[0|2]|4],%[%[M7,rfl,%[%[0|0]|23],%[2,bw|5],%[%[3,bw,%[1|0]|4],%[(@ia _ _ _ _ _ _ M7 %[dz,%[2|0],%[0|2],(ae _)|14] %[(@Gi _ _ (3) (2) _ _ _ _ _ _ _ _ _ _ _ rfl bw.nd rfl rfl ⋯ rfl rfl %[%[2|0],%[%[br,%[3|0],%[2|0]|10]|1]|1] rfl ∅)|11]),%[%[1,bw,%[3|0]|4]|11]|9]|9],(by intros;rfl)|30],%[%[%[1|0]|13]|11]|9]|9],?_⟩;rw [show aE ["_law_numbers", "_law_found", "_law_other", "_law_one"] [.ref p]=[some (.ref p),none,none,none] from rfl];exists hn;ac_rfl;refine dB (xs:=ns.map V.int) (λ i σ H'=>∃ v w:Option V,σ=[some (.ref p),some (.int (jD (ns.take i))),v,w]/\H'=H) ⟨none,none,rfl,rfl⟩ (λ i σ H' _ ⟨_,_,_,e⟩=>by rw [e];exact hp) ?_ ?_
  ·rintro i y _ _ hi ⟨v,w',rfl,rfl⟩;rename_i H;rw [MZ] at hi;obtain⟨z,hz,rfl⟩:=M4.mp hi;have e1:=m4 ns i z hz;have hz0:=hn () z (N3 hz);have hg0:=pK (ns.take i);generalize jD (ns.take (i+1))=g1 at *;generalize jD (ns.take i)=g0 at *;exists e1;clear hz hi k;simp! only [↓aN];refine oQ (by repeat' first|exact B2|exact vd|exact mo_nI|apply lq|apply mo_unN|exact qA|exact Jr|exact qB|exact mo_rI|exact mo_rIsN|exact mo_rNotN|exact va|exact mo_qIx|exact vc|exact pG|apply kF|apply mo_tB|apply mo_not|apply mo_and|apply mo_or|apply B3|apply mo_un|apply pH|apply mo_qLst|apply B4) (λ m σ H'=>∃ (f r:Int),σ=[some (.ref p),some (.int g0),some (.int r),some (.int f)]/\H'=H/\m=r.toNat/\0<=f/\0<=r/\Int.gcd f r=Int.gcd g0 z) _ ⟨g0,z,rfl,rfl,rfl,hg0,hz0,rfl⟩ ?_;rintro m _ _ ⟨f,r,rfl,rfl,rfl,hf,hr',hg⟩;rename_i H
   by_cases hz:r=0
   ·subst hz;have e:f=g1:=by rw [e1 (),←hg];exact(rA f hf).symm
    clear hg hn e1;ac_rfl;exact⟨_,_,rfl⟩
   ·have hp:0 < r:=by omega
    have e1:=rB f r hp hf;have e2:=NH f hp;have e3:=Nr f hz;have e4:=λ (_:Unit)=>e1.trans hg;clear hg e1 hn;ac_rfl;exact⟨_,by omega,_,_,rfl,rfl,hr',e3,e4 ()⟩
  ·rintro _ _ ⟨v,w',rfl,rfl⟩;rename_i H;have e2:jD (ns.take (ns.map V.int).length)=jD ns:=by rw [MK,N2]
   rw [e2];clear e2;ac_rfl
theorem AL{g l gr r:Int}(h:g < l):cG g l gr r=true:=by unfold cG;rw [decide_eq_true h];rfl
theorem AK{g l gr r:Int}(h:gr < g):cG g l gr r=true:=by unfold cG;rw [decide_eq_true h,Bool.or_true];rfl
theorem AJ{g l gr r:Int}(h:1 < r)(h':(g - l) % r ≠ 0):cG g l gr r=true:=by
 unfold cG;have:=Int.emod_nonneg (g - l) (show r ≠ 0 by omega);rw [decide_eq_true h,decide_eq_true (show 0 < (g - l) % r by omega),Bool.true_and,Bool.or_true]
theorem AI{g l gr r:Int}(h1:¬ g < l)(h2:¬ gr < g)(h3:¬ 1 < r):cG g l gr r=false:=by unfold cG;rw [decide_eq_false h1,decide_eq_false h2,decide_eq_false h3];rfl
theorem AH{g l gr r:Int}(h1:¬ g < l)(h2:¬ gr < g)(h3:(g - l) % r=0):cG g l gr r=false:=by unfold cG;rw [decide_eq_false h1,decide_eq_false h2,h3,decide_eq_false (Int.lt_irrefl 0),Bool.and_false];rfl
abbrev si  (p:Addr) (g:Int) (q:Addr) (H:Hp) (Q:VK) (E:XK):Prop:=∃ (zs:List Tm3) (cs:List (Int × Int)),gA H p zs/\cI H q cs/\cK zs/\dJ zs cs/\∀ H',Ext H H'->Q (.bl (cz zs cs g)) H'
def uV  : Sp:=λ vs H Q E=>∃ (p:Addr) (g:Int) (q:Addr),vs=[.ref p,.int g,.ref q]/\(si  p g q H Q E)
theorem rM  (p:Addr) (g:Int) (q:Addr) (H:Hp) (Q:VK) (E:XK):uV  [.ref p,.int g,.ref q] H Q E=(si  p g q H Q E):=qi (f:=λ (p:Addr) (g:Int) (q:Addr)=>[.ref p,.int g,.ref q]) (λ _ _ _ _ _ _ h=>by cases h;exact⟨rfl,rfl,rfl⟩) p g q
theorem Aa  {vs:List V}{H:Hp}{Q:VK}{E:XK}(h:uV  vs H Q E):vs.length=3:=ql h λ _ _ _=>rfl
theorem gx(T:Tx K mg t):bj P w K mg base CX0 2 t.a__law_ended t.d__law_ended ["_law_terms_here", "_law_goal", "_law_case"] uV:=by
 have G__law_sums:=%[dq|47];have G__law_divisor:=%[jx|47];refine T.F__law_ended.ok du (λ vs H Q E h=>Aa h) (λ c A o s H vs Q E hr h=>?_)
 ·obtain⟨p,g,q,rfl,zs,cs,hp,hq,ht,hc,k⟩:=h;refine⟨_,%[%[%[_law_sums,%[%[0|0],%[%[2|0]|1]|1]|3],(%[(2),rfl,%[%[3,du|5],%[%[4,du|5],(@aw _),∅|15],∅|15],∅,∅|20].mono λ _ _ _ _ h=>aX h),∅,∅,∅|39],%[%[5,du,%[_law_divisor,%[%[(["_law_k", "_law_terms_here", "_law_goal", "_law_case", "_law_least", "_law_greatest", "_law_rest_here"]),(1),(aK (aa dm) ["_law_terms_here", "_law_goal", "_law_case", "_law_least", "_law_greatest", "_law_rest_here"] rfl rfl nofun),rfl,(@dP _ _ _ _ _ _ ∅ T.z_range %[%[len,aA,%[%[0|0]|1]|6]|1] ∅),(λ C s₀ H₀ ex pn=>%[(0),_,(show List.Nodup (["_law_k", "_law_terms_here", "_law_goal", "_law_case", "_law_least", "_law_greatest", "_law_rest_here"]:List Str) from by decide +kernel),rfl,(Or.inl rfl),%[0|7]|18]),(λ C s₀ H₀ ex pn=>(@vD _ _ _ %[eo,%[aH,%[aH,%[3|0],%[0|0],(λ _ _=>rfl)|12],%[0|2],(λ _ _=>rfl)|12],%[aH,%[aH,%[3|0],%[0|0],(λ _ _=>rfl)|12],%[0|2],(λ _ _=>rfl)|12],(ae _)|14])),(λ C s₀ H₀ ex pn=>%[aH,%[aH,%[1|0],%[0|0],(λ _ _=>rfl)|12],%[0|2],(λ _ _=>rfl)|12]),(by intros;rfl)|27]|1]|3]|4],%[%[(@Bq _ _ _ _ _ _ _ %[dz,%[3|0],%[1|0],(ae _)|33] (@Bq _ _ _ _ _ _ _ %[eo,%[4|0],%[1|0],(ae _)|33] %[%[%[dz,%[5|0],%[0|2],(ae _)|33],%[%[dz,%[br,%[aB,%[1|0],%[3|0]|10],%[5|0]|10],%[0|2],(ae _)|33]|37]|35]|37]))|13]|11]|9]|9],?_⟩;rw [show aE ["_law_terms_here", "_law_goal", "_law_case", "_law_least", "_law_greatest", "_law_rest_here"] [.ref p,.int g,.ref q]=[some (.ref p),some (.int g),some (.ref q),none,none,none] from rfl];clear G__law_sums G__law_divisor;have h17:=ht.len;have hcl:=hc.len;have rs:=qT hcl;unfold cz at k;exists k;exists rs;exists hcl;ac_rfl;rw [cW];refine⟨zs,cs,hp,hq,ht,hcl (),λ r1 H1 e1 h1=>?_⟩;obtain⟨ts,hp1,al⟩:=cu hp e1;obtain⟨xs,hq1,bl⟩:=ay hq e1;have htl:ts.length=zs.length:=al.1;exists al;exists bl;clear hp hq;ac_rfl;refine⟨by omega,by omega,?_⟩;refine bH (List.range ((zs.length:Int)).toNat) (λ k=>decide ((cs.getD k default).1 < (cs.getD k default).2)) (λ k=>.int (zs.getD k default).1) (λ j x H'=>x=.int (0+(j:Nat))) jK.1 jK.2 (az (by rw [List.length_range];omega)) ?_ ?_
  ·intro D k x H' N1 N0 hk hD e hx k1 k0;subst hx;have hkr:=N8.mp hk;have hkz:k < zs.length:=by omega
   have hkc:k < cs.length:=by have:=hcl ();omega
   obtain⟨c1,c2,hu⟩:=gR (bl ()) hkc;obtain⟨z1,z2,hz⟩:=mz (al ()) hkz;have hp':=e.at hp1;have hq':=e.at hq1;have hu':=e.at hu;have hz':=e.at hz;generalize zs.getD k default=zi at *;generalize cs.getD k default=ci at *;clear hk hp1 hq1 hu hz rs
   by_cases hlt:ci.1 < ci.2
   ·have k1':N1 (.int zi.1) H':=k1 (MY hlt) H' (Ext.refl _);clear k1 k0;simp! only [↓bU,↓bc]
   ·have k0':N0 H':=k0 (M3 hlt) H' (Ext.refl _);clear k1 k0;simp! only [↓bU,↓bc]
  intro D H2 hD e2 h2;rw [Nv,show (((List.range zs.length).filter λ k=>decide ((cs.getD k default).1 < (cs.getD k default).2)).map λ k=>V.int (zs.getD k default).1)=(dM zs cs).map V.int by rw [←rs (),NO];rfl] at h2
  have hnn:∀ n∈dM zs cs,(0:Int)<=n:=λ n hn=>by
   unfold dM at hn;obtain⟨z,hz,rfl⟩:=List.mem_map.mp hn;have:=(ht.all z.1 (of_mem_zip (show (z.1,z.2)∈zs.zip cs from (List.mem_filter.mp hz).1)).1).1;omega
  have hgn:=pK (dM zs cs);exists hnn;clear hD;ac_rfl;rw [AZ];refine⟨_,h2,hnn (),?_⟩;have k':=λ (_:Unit)=>k () H2 (e1.trans e2);clear k hnn h2 rs;generalize jD (dM zs cs)=r at *;generalize bJ zs cs=l at *;generalize cE zs cs=gr at *
  by_cases x1:g < l
  ·have k2:=k' ();rw [AL x1] at k2;clear k';ac_rfl
  by_cases x2:gr < g
  ·have k2:=k' ();rw [AK x2] at k2;clear k';ac_rfl
  by_cases x3:1 < r
  ·have hr0:0 < r:=by omega
   by_cases x4:0 < (g - l) % r
   ·have k2:=k' ();rw [AJ x3 %[0|8]] at k2;clear k';ac_rfl
   ·have x5:(g - l) % r=0:=by have:=Nr (g - l) (show r ≠ 0 by omega);omega
    have k2:=k' ();rw [AH x1 x2 x5] at k2;clear k' x5;ac_rfl
  ·have k2:=k' ();rw [AI x1 x2 x3] at k2;clear k';ac_rfl
theorem CA{zs:List Tm3}{cs:List (Int × Int)}{d:Int}{k:Nat}(hl:cs.length=zs.length)(h:∀ n∈dM zs cs,d ∣ n)(hk:k < zs.length)(hlt:(cs.getD k default).1 < (cs.getD k default).2):(zs.getD k default).1 % d=0:=by
 refine Int.emod_eq_zero_of_dvd (h _ ?_);rw [←qT hl];exact M9.mpr ⟨k,Pc.mpr ⟨N8.mpr hk,MY hlt⟩,rfl⟩
abbrev nC  (p:Addr) (g:Int) (q:Addr) (d:Int) (H:Hp) (Q:VK) (E:XK):Prop:=∃ (zs:List Tm3) (cs:List (Int × Int)),gA H p zs/\cI H q cs/\cK zs/\dJ zs cs/\2<=d/\(∀ n∈dM zs cs,d ∣ n)/\0 < (g - bJ zs cs) % d/\∀ H',Ext H H'->Q (.bl true) H'
def oY  : Sp:=λ vs H Q E=>∃ (p:Addr) (g:Int) (q:Addr) (d:Int),vs=[.ref p,.int g,.ref q,.int d]/\(nC  p g q d H Q E)
theorem x6  (p:Addr) (g:Int) (q:Addr) (d:Int) (H:Hp) (Q:VK) (E:XK):oY  [.ref p,.int g,.ref q,.int d] H Q E=(nC  p g q d H Q E):=BI (f:=λ (p:Addr) (g:Int) (q:Addr) (d:Int)=>[.ref p,.int g,.ref q,.int d]) (λ _ _ _ _ _ _ _ _ h=>by cases h;exact⟨rfl,rfl,rfl,rfl⟩) p g q d
theorem xm  {vs:List V}{H:Hp}{Q:VK}{E:XK}(h:oY  vs H Q E):vs.length=4:=BJ h λ _ _ _ _=>rfl
theorem nQ(T:Tx K mg t):bj P w K mg base CX0 2 t.a__law_rest t.d__law_rest ["_law_terms_here", "_law_goal", "_law_case", "_law_by"] oY:=by
 have G__law_sums:=%[dq|47];have G__law_whole:=%[eF|47];refine T.F__law_rest.ok jq (λ vs H Q E h=>xm h) (λ c A o s H vs Q E hr h=>?_)
 ·obtain⟨p,g,q,d,rfl,zs,cs,hp,hq,ht,hc,hd,hdv,hrs,k⟩:=h;refine⟨_,%[%[(PW.pt %[%[%[%[_law_whole,%[%[3|0]|1]|3],(by intros;rfl)|24]|25],%[%[eo,%[3|0],%[0|2],(ae _)|14]|28]|22]),%[%[(@cO _ _ _ _)|13]|11],(@ah _)|16],%[%[M7,rfl,(@dP _ _ _ _ _ _ ∅ T.z_range %[%[len,aA,%[%[0|0]|1]|6]|1] ∅),%[4,jq|5],%[%[(PW.pt %[%[eo,%[aH,%[aH,%[2|0],%[4|0],(λ _ _=>rfl)|12],%[0|2],(λ _ _=>rfl)|12],%[aH,%[aH,%[2|0],%[4|0],(λ _ _=>rfl)|12],%[0|2],(λ _ _=>rfl)|12],(ae _)|14],%[%[dz,%[br,%[aH,%[aH,%[0|0],%[4|0],(λ _ _=>rfl)|12],%[0|2],(λ _ _=>rfl)|12],%[3|0]|10],%[0|2],(ae _)|14]|34]|32]),%[%[(@cO _ _ _ _)|13]|11],(@ah _)|16]|11],(by intros;rfl)|30],%[%[%[dz,%[br,%[aB,%[1|0],%[aH,%[_law_sums,%[%[0|0],%[%[2|0]|1]|1]|3],%[0|2],(λ _ _=>rfl)|12]|10],%[3|0]|10],%[0|2],(ae _)|33]|13]|11]|9]|9],?_⟩;rw [show aE ["_law_terms_here", "_law_goal", "_law_case", "_law_by", "_law_k"] [.ref p,.int g,.ref q,.int d]=[some (.ref p),some (.int g),some (.ref q),some (.int d),none] from rfl];clear G__law_sums G__law_whole;have h17:=ht.len;have hcl:=hc.len;have ra:∀ k,k < zs.length->(cs.getD k default).1 < (cs.getD k default).2->(zs.getD k default).1 % d=0:=λ k hk hlt=>CA hcl hdv hk hlt;obtain⟨ts,hp1,al⟩:=hp;obtain⟨xs,hq1,bl⟩:=hq;have htl:ts.length=zs.length:=al.1;have hd1:¬ d < 2:=by omega
  have hd0:0 < d:=by omega
  exists k;exists ra;exists hcl;exists al;exists bl;clear hdv;simp! only [↓aR];refine⟨by omega,by omega,?_⟩;refine pL (λ j σ H'=>∃ v:Option V,σ=[some (.ref p),some (.int g),some (.ref q),some (.int d),v]/\H'=H) ⟨none,rfl,rfl⟩ ?_ ?_
  ·rintro j _ _ hj ⟨v,rfl,rfl⟩;rename_i H;have hkz:j < zs.length:=by have:j < ((zs.length:Int)).toNat:=hj;omega
   have hkc:j < cs.length:=by have:=hcl ();omega
   obtain⟨c1,c2,hu⟩:=gR (bl ()) hkc;obtain⟨z1,z2,hz⟩:=mz (al ()) hkz;have ra':=ra () j hkz;generalize zs.getD j default=zi at *;generalize cs.getD j default=ci at *;clear hj k ra
   by_cases hlt:ci.1 < ci.2
   ·have ra2:=ra' hlt;clear ra';simp! only [↓aN];exact⟨_,rfl⟩
   ·clear ra';simp! only [↓aN];exact⟨_,rfl⟩
  ·rintro _ _ ⟨v,rfl,rfl⟩;rename_i H;ac_rfl;rw [cW];refine⟨zs,cs,⟨ts,hp1,al ()⟩,⟨xs,hq1,bl ()⟩,ht,hcl (),λ r1 H1 e1 h1=>?_⟩;have k':=k () H1 e1;clear k ra;ac_rfl
theorem qQ{xs:List V}{k:Nat}{y:V}(hk:k < xs.length):xs.take k++[y]++xs.drop (k+1)=xs.set k y:=by
 rw [List.set_eq_take_append_cons_drop,MI hk,Ov];rfl
def BO(H0 H:Hp)(more:List Bx)(ys:List V):Prop:=Al (λ c y=>∃ a,y=.ref a/\H0 a=none/\cI H a c) more.reverse ys
abbrev sj  (p:Addr) (g:Int) (q:Addr) (x:Addr) (H:Hp) (Q:VK) (E:XK):Prop:=∃ (zs:List Tm3) (cs:Bx) (ss:List V) (more:List Bx),gA H p zs/\cI H q cs/\cK zs/\dJ zs cs/\H x=some (.tup ss)/\gU zs g cs ss more/\∀ (r:Addr) (ys:List V) (H':Hp),Ext H H'->H' r=some (.lst ys)->BO H H' more ys->Q (.ref r) H'
def uW  : Sp:=λ vs H Q E=>∃ (p:Addr) (g:Int) (q:Addr) (x:Addr),vs=[.ref p,.int g,.ref q,.ref x]/\(sj  p g q x H Q E)
theorem A2  (p:Addr) (g:Int) (q:Addr) (x:Addr) (H:Hp) (Q:VK) (E:XK):uW  [.ref p,.int g,.ref q,.ref x] H Q E=(sj  p g q x H Q E):=BI (f:=λ (p:Addr) (g:Int) (q:Addr) (x:Addr)=>[.ref p,.int g,.ref q,.ref x]) (λ _ _ _ _ _ _ _ _ h=>by cases h;exact⟨rfl,rfl,rfl,rfl⟩) p g q x
theorem Ab  {vs:List V}{H:Hp}{Q:VK}{E:XK}(h:uW  vs H Q E):vs.length=4:=BJ h λ _ _ _ _=>rfl
theorem jG(T:Tx K mg t):bj P w K mg base CX0 3 t.a__law_behind t.d__law_behind ["_law_terms_here", "_law_goal", "_law_case", "_law_step"] uW:=by
 have G__law_sums:=%[dq|47];have G__law_whole:=%[eF|47];have G__law_rest:=%[nQ|47];refine T.F__law_behind.ok bE (λ vs H Q E h=>Ab h) (λ c A o s H vs Q E hr h=>?_)
 ·obtain⟨p,g,q,x,rfl,zs,cs,ss,more,hp,hq,ht,hc,hx,hs,k⟩:=h;refine⟨_,%[%[(PW.pt %[%[%[%[isinstance,bf,%[%[3|0],%[%[(.ty "tuple"),(.type "tuple"),_,∅,T.z_tuple,nofun,rfl,⋯,⋯|31]|1]|1]|6],(by intros;rfl)|24]|25],%[%[eo,%[len,aA,%[%[3|0]|1]|6],%[0|2],(ae _)|14],%[%[dz,%[len,aA,%[%[3|0]|1]|6],%[0|2],(ae _)|14]|28]|22]|22]),%[%[(@cR _ _ _)|13]|11],(@ah _)|16],%[%[%[_law_sums,%[%[0|0],%[%[2|0]|1]|1]|3],(%[(2),rfl,%[%[4,bE|5],%[%[5,bE|5],(@aw _),∅|15],∅|15],∅,∅|20].mono λ _ _ _ _ h=>aX h),∅,∅,∅|39],%[%[(PW.pt %[(PW.pt %[%[(bG hr.units),%[3|0],%[%[(@aW _ _ _ _)|1]|17],(ae _)|14],%[%[dz,%[4|0],%[1|0],(ae _)|14]|34]|32]),%[(PW.pt %[%[(bG hr.units),%[3|0],%[%[(@aW _ _ _ _)|1]|17],(ae _)|14],%[%[eo,%[5|0],%[1|0],(ae _)|14]|34]|32])|28]|22]),%[%[%[(@cF _)|19]|13]|11],(@ah _)|16],%[%[(PW.pt %[%[(bG hr.units),%[len,aA,%[%[3|0]|1]|6],%[0|2],(ae _)|14],%[%[(bG hr.units),%[aH,%[3|0],%[0|2],(λ _ _=>rfl)|12],(@aW _ _ _ _),(ae _)|14],%[%[%[_law_rest,%[%[0|0],%[%[1|0],%[%[2|0],%[%[aH,%[3|0],%[0|2],(λ _ _=>rfl)|12]|1]|1]|1]|1]|3],(by intros;rfl)|24]|34]|32]|32]),%[%[%[(@cF _)|19]|13]|11],(@ah _)|16],%[%[(PW.pt %[%[eo,%[len,aA,%[%[3|0]|1]|6],%[0|2],(ae _)|14],%[%[(bN hr.units),%[aH,%[3|0],%[0|2],(λ _ _=>rfl)|12],(@aW _ _ _ _),(ae _)|14],%[%[%[%[_law_whole,%[%[aH,%[3|0],%[0|2],(λ _ _=>rfl)|12]|1]|3],(by intros;rfl)|24]|25],%[%[%[%[_law_whole,%[%[aH,%[3|0],%[0|2],(λ _ _=>rfl)|12]|1]|3],(by intros;rfl)|24]|25]|28]|22]|22]|22]),%[%[(@cR _ _ _)|13]|11],(@ah _)|16],%[%[%[3|0],(%[(3),rfl,%[%[6,bE|5],%[%[7,bE|5],%[%[8,bE|5],(@aw _),∅|15],∅|15],∅|15],∅,∅|20].mono λ _ _ _ _ h=>aX h),∅,∅,∅|39],%[%[(PW.pt %[%[(@i8 _ _ _ _ _ _ _ _ _ _ _ _ iF eo %[0|2] %[7|0] %[len,aA,%[%[0|0]|1]|6] ∅)|25],%[%[(@i8 _ _ _ _ _ _ _ _ _ _ _ _ iF eo %[aH,%[aH,%[2|0],%[7|0],(λ _ _=>rfl)|12],%[0|2],(λ _ _=>rfl)|12] %[8|0] %[aH,%[aH,%[2|0],%[7|0],(λ _ _=>rfl)|12],%[0|2],(λ _ _=>rfl)|12] ∅)|25]|28]|22]),%[%[(@cR _ _ _)|13]|11],(@ah _)|16],%[%[%[%[%[gC,%[gC,%[BK,%[2|0],(@fO _),(@fN _ _ _ %[7|0])|43],%[%[%[%[%[aD,%[8|0],%[0|2]|10],%[%[aH,%[aH,%[2|0],%[7|0],(λ _ _=>rfl)|12],%[0|2],(λ _ _=>rfl)|12]|1]|1]|17]|1]|19]|10],%[BK,%[2|0],(@fN _ _ _ %[aD,%[7|0],%[0|2]|10]),(@fO _)|43]|10],%[%[gC,%[gC,%[BK,%[2|0],(@fO _),(@fN _ _ _ %[7|0])|43],%[%[%[%[%[aH,%[aH,%[2|0],%[7|0],(λ _ _=>rfl)|12],%[0|2],(λ _ _=>rfl)|12],%[%[8|0]|1]|1]|17]|1]|19]|10],%[BK,%[2|0],(@fN _ _ _ %[aD,%[7|0],%[0|2]|10]),(@fO _)|43]|10]|1]|1]|19]|13]|11]|9]|9]|9]|9]|9]|9]|9],?_⟩;rw [show aE ["_law_terms_here", "_law_goal", "_law_case", "_law_step", "_law_least", "_law_greatest", "_law_word", "_law_k", "_law_at"] [.ref p,.int g,.ref q,.ref x]=[some (.ref p),some (.int g),some (.ref q),some (.ref x),none,none,none,none,none] from rfl];clear G__law_sums G__law_whole G__law_rest;have h17:=ht.len;have hcl:=hc.len;exists k;exists hcl;have so1:PyData.strOk (Str.ofString "low")=true:=by decide +kernel
  have so2:PyData.strOk (Str.ofString "high")=true:=by decide +kernel
  have so3:PyData.strOk (Str.ofString "rest")=true:=by decide +kernel
  have so4:PyData.strOk (Str.ofString "part")=true:=by decide +kernel
  have sq1:(Str.ofString "low" == Str.ofString "low")=true:=by decide +kernel
  have sq2:(Str.ofString "high" == Str.ofString "high")=true:=by decide +kernel
  have sq3:(Str.ofString "high" == Str.ofString "low")=false:=by decide +kernel
  have sq4:(Str.ofString "rest" == Str.ofString "low")=false:=by decide +kernel
  have sq5:(Str.ofString "rest" == Str.ofString "high")=false:=by decide +kernel
  have sq6:(Str.ofString "part" == Str.ofString "low")=false:=by decide +kernel
  have sq7:(Str.ofString "part" == Str.ofString "high")=false:=by decide +kernel
  have sq8:(Str.ofString "rest" == Str.ofString "rest")=true:=by decide +kernel
  have sq9:(Str.ofString "part" == Str.ofString "part")=true:=by decide +kernel
  rcases hs with ⟨rfl,hs,rfl⟩|⟨rfl,hs,rfl⟩|⟨d,rfl,hd,hdv,hs,rfl⟩|⟨m,a,rfl,hm,ha1,ha2,hs,rfl⟩
  ·ac_rfl;rw [cW];refine⟨zs,cs,hp,hq,ht,hcl (),λ r1 H1 e1 h1=>?_⟩;have hx1:=e1.at hx;ac_rfl;intro t2 H2 _ e2 h2;have hx2:=e2.at hx1;clear hx hx1 hp hq;ac_rfl;intro r3 H3 _ e3 h3;exact k () r3 [] H3 (e1.trans (e2.trans e3)) h3 Al.nil
  ·ac_rfl;rw [cW];refine⟨zs,cs,hp,hq,ht,hcl (),λ r1 H1 e1 h1=>?_⟩;have hx1:=e1.at hx;ac_rfl;intro t2 H2 _ e2 h2;have hx2:=e2.at hx1;clear hx hx1 hp hq;ac_rfl;intro t3 H3 _ e3 h3;have hx3:=e3.at hx2;clear hx2 h2;ac_rfl;intro r4 H4 _ e4 h4;exact k () r4 [] H4 (e1.trans (e2.trans (e3.trans e4))) h4 Al.nil
  ·ac_rfl;rw [cW];refine⟨zs,cs,hp,hq,ht,hcl (),λ r1 H1 e1 h1=>?_⟩;have hx1:=e1.at hx;exists hdv;ac_rfl;intro t2 H2 _ e2 h2;have hx2:=e2.at hx1;clear hx hx1;ac_rfl;intro t3 H3 _ e3 h3;have hx3:=e3.at hx2;have e03:=e1.trans (e2.trans e3);clear hx2 h2;ac_rfl;rw [x6];refine⟨zs,cs,cu hp e03,ay hq e03,ht,hc,hd,hdv (),hs,λ H4 e4=>?_⟩;ac_rfl;intro r5 H5 _ e5 h5;exact k () r5 [] H5 (e03.trans (e4.trans e5)) h5 Al.nil
  ·ac_rfl;rw [cW];refine⟨zs,cs,hp,hq,ht,hcl (),λ r1 H1 e1 h1=>?_⟩;have hx1:=e1.at hx;ac_rfl;intro t2 H2 _ e2 h2;have hx2:=e2.at hx1;clear hx hx1;ac_rfl;intro t3 H3 _ e3 h3;have hx3:=e3.at hx2;have e03:=e1.trans (e2.trans e3);obtain⟨ts,hp3,al⟩:=cu hp e03;obtain⟨xs,hq3,bl⟩:=ay hq e03;have htl:ts.length=zs.length:=al.1;have hxl:xs.length=cs.length:=bl.1;have hmc:m < cs.length:=by have:=hcl ();omega
   obtain⟨y,hat,hy⟩:=gR bl hmc;rw [NS] at hat;have hm0:(0:Int)<=(m:Int):=by omega
   have hm1:(m:Int) < (zs.length:Int):=by omega
   generalize hci:cs.getD m default=ci at *;exists bl;exists al;exists hci;clear hx2 h2 hp hq;have c1:kg xs none (some (m:Int))=xs.take m:=by rw [lG _ _ hm0,Nv]
   have c2:kg xs (some ((m:Int)+1)) none=xs.drop (m+1):=by rw [AN _ _ %[0|8],show ((m:Int)+1).toNat=m+1 by omega]
   have ln1:(xs.take m).length<=17:=by rw [NP];have:=hcl ();omega
   have ln2:(xs.drop (m+1)).length<=17:=by rw [Pd];have:=hcl ();omega
   simp! only [↓aR];intro p4 H4 _ e4 h4;have hq4:=e4.at hq3;have hy4:=e4.at hy;clear hq3 hy hp3 hx3;ac_rfl;intro t5 H5 _ e5 h5;have h4_5:=e5.at h4;have hq5:=e5.at hq4;have hy5:=e5.at hy4;clear h4 hq4 hy4;ac_rfl;intro l6 H6 _ e6 h6;have h4_6:=e6.at h4_5;have h5_6:=e6.at h5;have hq6:=e6.at hq5;have hy6:=e6.at hy5;clear h4_5 h5 hq5 hy5;refine iO h4_6 h6 (az (by simp only [length_cons,length_nil];omega)) ?_;intro l7 H7 _ e7 h7;have h5_7:=e7.at h5_6;have hq7:=e7.at hq6;have hy7:=e7.at hy6;clear h4_6 h5_6 hq6 hy6 h6;ac_rfl;intro l8 H8 _ e8 h8;have h7_8:=e8.at h7;refine iO h7_8 h8 (az (by simp only [length_append,length_cons,length_nil];omega)) ?_;rw [qQ %[0|8]];intro l9 H9 hl9 e9 h9;have e39:=e4.trans (e5.trans (e6.trans (e7.trans (e8.trans e9))));have hl9_0:H l9=none:=e03.free ((e4.trans (e5.trans (e6.trans (e7.trans e8)))).free hl9);have h5_9:=(e8.trans e9).at h5_7;have hq9:=(e8.trans e9).at hq7;have hy9:=(e8.trans e9).at hy7;clear h7 h8 h7_8 h5_7 hq7 hy7 e4 e5 e6 e7 e8 e9 hl9;ac_rfl;intro p4 H4 _ e4 h4;have hq4:=e4.at hq9;have hy4:=e4.at hy9;clear hq9 hy9;ac_rfl;intro t5' H5 _ e5 h5;have h4_5:=e5.at h4;have hq5:=e5.at hq4;clear h4 hq4 hy4;ac_rfl;intro l6 H6 _ e6 h6;have h4_6:=e6.at h4_5;have h5_6:=e6.at h5;have hq6:=e6.at hq5;clear h4_5 h5 hq5;refine iO h4_6 h6 (az (by simp only [length_cons,length_nil];omega)) ?_;intro l7 H7 _ e7 h7;have h5_7:=e7.at h5_6;have hq7:=e7.at hq6;clear h4_6 h5_6 hq6 h6;ac_rfl;intro l8 H8 _ e8 h8;have h7_8:=e8.at h7;refine iO h7_8 h8 (az (by simp only [length_append,length_cons,length_nil];omega)) ?_;rw [qQ %[0|8]];intro l10 H10 hl10 e9 h10;have e310:=e39.trans (e4.trans (e5.trans (e6.trans (e7.trans (e8.trans e9)))));have hl10_0:H l10=none:=(e03.trans e39).free ((e4.trans (e5.trans (e6.trans (e7.trans e8)))).free hl10);have h9_10:=(e4.trans (e5.trans (e6.trans (e7.trans (e8.trans e9))))).at h9;have h59_10:=(e4.trans (e5.trans (e6.trans (e7.trans (e8.trans e9))))).at h5_9;have h5_10:=(e8.trans e9).at h5_7;clear h7 h8 h7_8 h5_7 hq7 e4 e5 e6 e7 e8 e9 hl10 h9 h5_9;ac_rfl;intro r11 H11 _ e11 h11;have blN:=(bl ()).imp λ _ _ t=>axP.ext t (e310.trans e11);have u1:cI H11 l9 (upC cs m a):=⟨_,e11.at h9_10,by unfold upC;rw [hci ()];exact qJ blN ⟨t5,rfl,e11.at h59_10⟩⟩;have u2:cI H11 l10 (loC cs m a):=⟨_,e11.at h10,by unfold loC;rw [hci ()];exact qJ blN ⟨t5',rfl,e11.at h5_10⟩⟩;exact k () r11 _ H11 (e03.trans (e310.trans e11)) h11 (Al.cons' ⟨l9,rfl,hl9_0,u1⟩ (Al.cons' ⟨l10,rfl,hl10_0,u2⟩ Al.nil))
theorem Rep.len{zs:List Tm3}{g:Int}:∀ {p:List (List V)}{st:List Bx},Rep zs g st p []->st.length<=p.length
 | [],st,h=>by
  have e:st=[]:=by cases st<;>exact h
  rw [e];exact MG _
 | _::_,[],h=>h.elim
 | _::p,c::st,⟨m,h1,h2,h3⟩=>by
  have:=Rep.len h3;rw [ML] at this;rw [Nc,Nc];omega
def BxA(H:Hp)(c:Bx)(y:V):Prop:=∃ a,y=.ref a/\cI H a c
theorem eM.al{H:Hp}{cA pA:Addr}:∀ {st:List Bx}{cl:List V},eM H cA pA st cl->Al (BxA H) st.reverse cl
 | [],cl,h=>by have h':cl=[]:=h;rw [h'];exact Al.nil
 | c::st,cl,⟨cl0,y,h1,⟨a,h2,_,_,h5⟩,h3⟩=>by
  rw [h1,Pq];exact iS (eM.al h3) (Al.cons' ⟨a,h2,h5⟩ Al.nil)
theorem vE{H:Hp}{f:V->Option PyData}:∀ {cs:List Bx}{ys:List V},Al (BxA H) cs ys->aI (ys.map (bp H (bp H (bp H f))))=some (cs.map λ c=>PyData.list ((c.map λ z=>[z.1,z.2]).map λ z=>PyData.tuple (z.map PyData.int)))
 | [],ys,h=>by
  have:ys=[]:=Ol.mp h.1;rw [this];rfl
 | c::cs,[],h=>by have:=h.1;simp at this
 | c::cs,y::ys,h=>by
  obtain⟨a,rfl,ts,h1,h2⟩:=h.2 0 c y rfl rfl;have ih:=vE (H:=H) (f:=f) (cs:=cs) (ys:=ys) ⟨by have:=h.1;simpa using this,λ i z x hz hx=>h.2 (i+1) z x (by simpa using hz) (by simpa using hx)⟩
  have e1:bp H (bp H (bp H f)) (.ref a)=some (PyData.list ((c.map λ z=>[z.1,z.2]).map λ z=>PyData.tuple (z.map PyData.int))):=by
   rw [fz,h1]
   show oH (bp H (bp H f)) (.lst ts)=_
   rw [gO,kK (uG h2)];rfl
  rw [Nf,e1,bt,ih];rfl
theorem Bk{H:Hp}{f:V->Option PyData}{cs:List Bx}{ys:List V}(h:Al (BxA H) cs ys)(hn:0 < cs.length):∃ d ds,aI (ys.map (bp H (bp H (bp H f))))=some (d::ds):=by
 rw [vE h]
 cases cs with
 | nil=>simp at hn
 | cons c cs=>exact⟨_,_,rfl⟩
theorem eM.re{H:Hp}{cA pA cB:Addr}(hb:H cB=none):∀ {st:List Bx}{cl:List V},eM H cA pA st cl->eM H cB cB st cl
 | [],_,h=>h
 | _::_,_,⟨cl0,y,h1,⟨a,h2,_,_,h5⟩,h3⟩=>by
  have n:a ≠ cB:=λ e=>by obtain⟨_,h,_⟩:=h5;rw [e,hb] at h;cases h
  exact⟨cl0,y,h1,⟨a,h2,n,n,h5⟩,eM.re hb h3⟩
theorem eM.cat{H0 H:Hp}{cA cB:Addr}{more st:List Bx}{cl ys:List V}(hs:eM H cA cA st cl)(hm:BO H0 H more ys)(hmm:more=[]\/∃ a b,more=[a,b])(hb:H cB=none):eM H cB cB (more++st) (cl++ys):=by
 have hs':=hs.re hb
 rcases hmm with rfl|⟨a,b,rfl⟩
 ·have:ys=[]:=Ol.mp hm.1;rw [this,Oz];exact hs'
 ·have hl:ys.length=2:=hm.1
  obtain⟨y1,y2,rfl⟩:∃ y1 y2,ys=[y1,y2]:=by
   match ys,hl with
   | [y1,y2],_=>exact⟨y1,y2,rfl⟩
  obtain⟨a1,h1,_,p1⟩:=hm.2 0 b y1 rfl rfl;obtain⟨a2,h2,_,p2⟩:=hm.2 1 a y2 rfl rfl;have n1:a1 ≠ cB:=λ e=>by obtain⟨_,h,_⟩:=p1;rw [e,hb] at h;cases h
  have n2:a2 ≠ cB:=λ e=>by obtain⟨_,h,_⟩:=p2;rw [e,hb] at h;cases h
  exact⟨cl++[y1],y2,by rw [Ov];rfl,⟨a2,h2,n2,n2,p2⟩,cl,y1,rfl,⟨a1,h1,n1,n1,p1⟩,hs'⟩
theorem BO.al{H0 H:Hp}{more:List Bx}{ys:List V}(h:BO H0 H more ys):Al (BxA H) more.reverse ys:=⟨h.1,λ i z y hz hy=>(let ⟨a,h1,_,h3⟩:=h.2 i z y hz hy;⟨a,h1,h3⟩)⟩
theorem gU.more{zs:List Tm3}{g:Int}{c:Bx}{s:List V}{more:List Bx}(h:gU zs g c s more):more=[]\/(cz zs c g=false/\∃ a b,more=[a,b]):=by
 rcases h with ⟨_,_,h⟩|⟨_,_,h⟩|⟨_,_,_,_,_,h⟩|⟨_,_,_,_,_,_,e,h⟩
 ·exact .inl h
 ·exact .inl h
 ·exact .inl h
 ·exact .inr ⟨e,_,_,h⟩
abbrev nF  (p:Addr) (g:Int) (x:Addr) (H:Hp) (Q:VK) (E:XK):Prop:=∃ (zs:List Tm3) (pp:List (List V)),gA H p zs/\cK zs/\km H x pp/\pp.length<=100000/\Rep zs g [zs.map λ z=>z.2] pp []/\∀ (r:Addr) (H':Hp),Ext H H'->H' r=some (.lst [])->Q (.ref r) H'
def o9  : Sp:=λ vs H Q E=>∃ (p:Addr) (g:Int) (x:Addr),vs=[.ref p,.int g,.ref x,.bl true]/\(nF  p g x H Q E)
theorem yb  (p:Addr) (g:Int) (x:Addr) (H:Hp) (Q:VK) (E:XK):o9  [.ref p,.int g,.ref x,.bl true] H Q E=(nF  p g x H Q E):=qi (f:=λ (p:Addr) (g:Int) (x:Addr)=>[.ref p,.int g,.ref x,.bl true]) (λ _ _ _ _ _ _ h=>by cases h;exact⟨rfl,rfl,rfl⟩) p g x
theorem xp  {vs:List V}{H:Hp}{Q:VK}{E:XK}(h:o9  vs H Q E):vs.length=4:=ql h λ _ _ _=>rfl
theorem nR(T:Tx K mg t):bj P w K mg base CX0 4 t.a__law_left t.d__law_left ["_law_terms_here", "_law_goal", "_law_paper", "_law_bare"] o9:=by
 have G__law_behind:=%[jG|47];have G__law_ended:=%[gx|47];refine T.F__law_left.ok cn (λ vs H Q E h=>xp h) (λ c A o s H vs Q E hr h=>?_)
 ·obtain⟨p,g,x,rfl,zs,pp,⟨ts,hp,al⟩,ht,⟨ys,hx,pl⟩,hpl,rep,k⟩:=h;refine⟨_,%[%[4,cn,%[%[%[(["_law_times", "_law_low", "_law_high", "_law_terms_here", "_law_goal", "_law_paper", "_law_bare", "_law_cases", "_law_step", "_law_case", "_law_more"]),(3),(aK (aa eu) ["_law_terms_here", "_law_goal", "_law_paper", "_law_bare", "_law_cases", "_law_step", "_law_case", "_law_more"] rfl rfl nofun),rfl,%[%[0|0]|23],(λ C s₀ H₀ ex pn=>(%[(3),rfl,%[%[(0),_,(show List.Nodup (["_law_times", "_law_low", "_law_high", "_law_terms_here", "_law_goal", "_law_paper", "_law_bare", "_law_cases", "_law_step", "_law_case", "_law_more"]:List Str) from by decide +kernel),rfl,(Or.inl rfl),%[0|7]|18],%[%[(1),_,(show List.Nodup (["_law_times", "_law_low", "_law_high", "_law_terms_here", "_law_goal", "_law_paper", "_law_bare", "_law_cases", "_law_step", "_law_case", "_law_more"]:List Str) from by decide +kernel),rfl,(Or.inl rfl),%[0|7]|18],%[%[(2),_,(show List.Nodup (["_law_times", "_law_low", "_law_high", "_law_terms_here", "_law_goal", "_law_paper", "_law_bare", "_law_cases", "_law_step", "_law_case", "_law_more"]:List Str) from by decide +kernel),rfl,(Or.inl rfl),%[0|7]|18],(@aw _),∅|15],∅|15],∅|15],∅,∅|20].mono λ _ _ _ _ h=>aX h)),(λ C s₀ H₀ ex pn=>(@aM _)),(λ C s₀ H₀ ex pn=>%[%[%[1|0],%[%[2|0]|1]|1]|17]),(by intros;rfl)|27]|1]|19]|4],%[%[M7,rfl,%[%[2|0]|23],%[5,cn|5],%[%[%[(bG hr.units),%[4|0],%[(@cF _)|19],(ae _)|14],%[%[(@cR _ _ _)|13]|11],(@ah _)|16],%[%[6,cn,(@qw _ _ _ _ _ _ _ _ _ M6 O7 O6 u9 %[4|0] ∅ ∅)|4],%[%[7,cn,%[_law_behind,%[%[0|0],%[%[1|0],%[%[6|0],%[%[5|0]|1]|1]|1]|1]|3]|4],%[%[(PW.pt %[%[qx,%[7|0],(@cR _ _ _),(ae _)|14],%[(PW.pt %[%[%[3|0],(by intros;rfl)|24],%[%[(bN hr.units),%[7|0],%[(@cF _)|19],(ae _)|14],%[%[%[_law_ended,%[%[0|0],%[%[1|0],%[%[6|0]|1]|1]|1]|3],(by intros;rfl)|24]|34]|32]|32])|28]|22]),%[%[(@cR _ _ _)|13]|11],(@ah _)|16],%[%[4,cn,%[gC,%[4|0],%[7|0]|10]|4]|11]|9]|9]|9]|9],(by intros;rfl)|30],%[%[%[4|0]|13]|11]|9]|9],?_⟩;rw [show aE ["_law_terms_here", "_law_goal", "_law_paper", "_law_bare", "_law_cases", "_law_step", "_law_case", "_law_more"] [.ref p,.int g,.ref x,.bl true]=[some (.ref p),some (.int g),some (.ref x),some (.bl true),none,none,none,none] from rfl];clear G__law_behind G__law_ended;have h17:=ht.len;have hyl:ys.length=pp.length:=pl.1;have wk:=fK (K:=K) (R:=trP) (λ _ _ _ _ h e=>h.ext e) hp al;exists k;exists pl;exists rep;exists hyl;have htr:gA H p zs:=⟨ts,hp,al⟩;ac_rfl;refine cx zs (λ _=>true) trP (λ D z y H'=>axP z.2 y H') wk.1 wk.2 (λ D z y H1 H2 h e=>axP.ext (a:=z.2) h e) (λ D z y H1 xs o h hD=>axP.upd (z:=z.2) h hD) (az %[0|8]) ?_ ?_
  ·intro D z y H' N1 N0 hz hD e _ ⟨q,hy,hq⟩ k1 _;subst hy;have k1':=k1 rfl;clear k1 k wk rep pl hx hp htr;simp! only [↓kG,↓bc];intro t1 H6 ht1 e6 h6;exact k1' _ H6 e6 ⟨t1,rfl,h6⟩
  intro D zs2 H2 hD e2 h2 al2;rw [iC] at al2;have pr2:cI H2 D (zs.map λ z=>z.2):=⟨zs2,h2,gG al2⟩;clear al2 wk hD;ac_rfl;intro c3 H3 hc3 e3 h3;have hc30:H c3=none:=e2.free hc3
  have st3:eM H3 c3 c3 [zs.map λ z=>z.2] [.ref D]:=by
   have n:D ≠ c3:=λ e=>by rw [e,hc3] at h2;cases h2
   exact⟨[],.ref D,rfl,⟨D,rfl,n,n,ay pr2 e3⟩,rfl⟩
  have e03:=e2.trans e3;have hx3:=e03.at hx;clear hc3 pr2 h2 e2 e3;ac_rfl;refine dB (xs:=ys) (λ i σ H'=>∃ (st:List Bx) (ca:Addr) (cl:List V) (v5 v6 v7:Option V),σ=[some (.ref p),some (.int g),some (.ref x),some (.bl true),some (.ref ca),v5,v6,v7]/\Ext H H'/\H ca=none/\H' ca=some (.lst cl)/\eM H' ca ca st cl/\Rep zs g st (pp.drop i) []) ⟨_,c3,_,none,none,none,rfl,e03,hc30,h3,st3,rep ()⟩ (λ i σ H' _ ⟨_,_,_,_,_,_,_,e,_⟩=>e.at hx) ?_ ?_
  ·clear st3 h3 hx3 e03 hc30;rintro i y _ H5 hi ⟨st,ca,cl,v5,v6,v7,rfl,e5,hca,h5,stk,rp⟩;have hip:i < pp.length:=by have:=(MB.mp hi).1;have:=hyl ();omega
   obtain⟨sr,rfl,hsr⟩:=(pl ()).2 i pp[i] y (Mx hip) hi;have hln:=Rep.len rp;rw [Pd] at hln;rw [OP hip] at rp
   cases st with
   | nil=>exact rp.elim
   | cons c st=>
    obtain⟨more,hst,hc,rp'⟩:=rp;have hmm:=hst.more;obtain⟨cl0,y,rfl,hcy,stk'⟩:=stk;obtain⟨a,rfl,nac,_,pa⟩:=hcy;have hcl0:=stk'.len;have hsr5:=e5.at hsr;obtain⟨cl,hcl⟩:∃ cl,cl0++[V.ref a]=cl:=⟨_,rfl⟩;have stkc:eM H5 ca ca (c::st) cl:=⟨cl0,.ref a,hcl.symm,⟨a,rfl,nac,nac,pa⟩,stk'⟩;have hlen:0 < (cl.length:Int):=by rw [←hcl,ML,M8];omega
    have hlast:cl[cl.length - 1]? = some (.ref a):=by rw [←hcl,ML,M8,Nat.add_sub_cancel,Ng (MG _),Nat.sub_self];rfl
    have hdrop:cl.dropLast=cl0:=by rw [←hcl,List.dropLast_concat]
    rw [hcl] at h5;exists hst;exists rp';exists hmm;exists stk';exists hcl;exists hcl0;clear hi;simp! only [↓aN];intro n6 H6 hn6 e6 h6;have stk6:=stkc.ext e6;obtain⟨dd,ds,hdd⟩:=Bk (f:=bp H6 (bp H6 noD)) stk6.al (by rw [Oi,Nc];omega);have h5_6:=e6.at h5;have hsr6:=e6.at hsr5;have pa6:=ay pa e6;have stk'6:=(stk' ()).ext e6;have e06:=e5.trans e6;clear hn6 stkc stk6 h5 hsr5 stk' pa e6;have h7c:upd H6 ca (.lst cl0) ca=some (.lst cl0):=aj;have cs7:=CsV.upd (o:=.lst cl0) (c:=c) (y:=.ref a) ⟨a,rfl,nac,nac,pa6⟩ h5_6 (.inl rfl);have st7:=eM.upd (o:=.lst cl0) h5_6 (.inl rfl) stk'6;have e07:Ext H (upd H6 ca (.lst cl0)):=e06.put hca;have hsr7:upd H6 ca (.lst cl0) sr=some (.tup pp[i]):=by rw [ai (λ e=>by rw [e,h5_6] at hsr6;cases hsr6)];exact hsr6
    exists st7;exists stk'6;ac_rfl;generalize upd H6 ca (.lst cl0)=H7 at *;clear hdd h5_6 hsr6 pa6 stk'6 e06 h6 hlen hlast hdrop hcl;obtain⟨_,ha',_,_,pa7⟩:=cs7;cases ha';rw [A2];refine⟨zs,c,pp[i],more,cu htr e07,pa7,ht,hc,hsr7,hst (),λ r8 bs H8 e8 h8 beh=>?_⟩;have e08:=e07.trans e8;have h8c:=e8.at h7c;have st8:=λ (_:Unit)=>(st7 ()).ext e8;have pa8:=ay pa7 e8;have hcl1:cl0.length<=100000:=by have:=hcl0 ();rw [Nc] at hln;omega
    clear hst h7c st7 pa7 hsr7
    rcases hmm () with rfl|⟨hee,b1,b2,rfl⟩
    ·have hbs:bs=[]:=Ol.mp beh.1;subst hbs;exists beh;clear hmm;ac_rfl;intro n9 H9 _ e9 h9;have h8_9:=e9.at h8;have h8c9:=e9.at h8c;have st9:=λ (_:Unit)=>(st8 ()).ext e9;have e09:=e08.trans e9;clear h8 h8c st8;ac_rfl;refine⟨lr %[0|8],?_⟩;intro c12 H12 hc12 e12 h12;have hcn:H c12=none:=e09.free hc12;have stN:=(eM.cat (st9 ()) (show BO H7 H9 [] [] from Al.nil) (.inl rfl) hc12).ext e12;rw [Oz] at stN;have eN:=e09.trans e12;exists stN;clear hc12 e12;ac_rfl;exact⟨_,c12,_,_,_,_,rfl,eN,hcn,h12,stN (),rp' ()⟩
    ·have hbl:bs.length=2:=beh.1;exists beh;clear hmm;ac_rfl;intro n9 H9 _ e9 h9;have h8_9:=e9.at h8;have h8c9:=e9.at h8c;have st9:=λ (_:Unit)=>(st8 ()).ext e9;have e09:=e08.trans e9;have beh9:BO H7 H9 [b1,b2] bs:=(beh ()).imp λ _ _ ⟨a,h1,h2,h3⟩=>⟨a,h1,h2,ay h3 e9⟩;obtain⟨dd,ds,hdd⟩:=Bk (f:=bp H9 (bp H9 noD)) beh9.al (show 0 < [b2,b1].length by simp);exists beh9;clear h8 h8c st8 beh;ac_rfl;rw [rM];refine⟨zs,c,cu htr e09,ay pa8 e9,ht,hc,λ H10 e10=>?_⟩;rw [hee];have h8_10:=e10.at h8_9;have h8c10:=e10.at h8c9;have st10:=λ (_:Unit)=>(st9 ()).ext e10;have e010:=e09.trans e10;have beh10:BO H7 H10 [b1,b2] bs:=(beh9 ()).imp λ _ _ ⟨a,h1,h2,h3⟩=>⟨a,h1,h2,ay h3 e10⟩;exists beh10;clear hdd beh9 st9 h8_9 h8c9 h9;ac_rfl;refine⟨lr %[0|8],?_⟩;intro c12 H12 hc12 e12 h12;have hcn:H c12=none:=e010.free hc12;have stN:=(eM.cat (st10 ()) (beh10 ()) (.inr ⟨_,_,rfl⟩) hc12).ext e12;have eN:=e010.trans e12;exists stN;clear hc12 e12;ac_rfl;exact⟨_,c12,_,_,_,_,rfl,eN,hcn,h12,stN (),rp' ()⟩
  ·rintro _ H5 ⟨st,ca,cl,v5,v6,v7,rfl,e5,hca,h5,stk,rp⟩;rw [hyl (),O1] at rp
   have hs0:st=[]:=by cases st<;>exact rp
   subst hs0;have hcl:cl=[]:=stk;subst hcl;have k':=k () ca H5 e5 h5;clear k rp stk;ac_rfl
abbrev kd  (x:Addr) (p:Addr) (g:Int) (m:Int) (H:Hp) (Q:VK) (E:XK):Prop:=∃ (zs:List Tm3) (pp:List (List V)) (a1:Addr),H x=some (.tup [.str "apart",.ref a1])/\km H a1 pp/\gA H p zs/\cK zs/\(pp.length:Int)<=m/\pp.length<=100000/\Rep zs g [zs.map λ z=>z.2] pp []/\∀ H',Ext H H'->Q (.bl true) H'
def kZ  : Sp:=λ vs H Q E=>∃ (x:Addr) (p:Addr) (g:Int) (m:Int),vs=[.ref x,.ref p,.int g,.int m]/\(kd  x p g m H Q E)
theorem ud  (x:Addr) (p:Addr) (g:Int) (m:Int) (H:Hp) (Q:VK) (E:XK):kZ  [.ref x,.ref p,.int g,.int m] H Q E=(kd  x p g m H Q E):=BI (f:=λ (x:Addr) (p:Addr) (g:Int) (m:Int)=>[.ref x,.ref p,.int g,.int m]) (λ _ _ _ _ _ _ _ _ h=>by cases h;exact⟨rfl,rfl,rfl,rfl⟩) x p g m
theorem tP  {vs:List V}{H:Hp}{Q:VK}{E:XK}(h:kZ  vs H Q E):vs.length=4:=BJ h λ _ _ _ _=>rfl
theorem lV(T:Tx K mg t):bj P w K mg base CX0 5 t.a__law_apart t.d__law_apart ["_law_found", "_law_terms_here", "_law_goal", "_law_most"] kZ:=by
 have G__law_left:=%[nR|47];refine T.F__law_apart.ok ow (λ vs H Q E h=>tP h) (λ c A o s H vs Q E hr h=>?_)
 ·obtain⟨x,p,g,m,rfl,zs,pp,a1,hx,⟨ys,h1,pl⟩,htr,ht,hm,h4,rep,k⟩:=h;refine⟨_,%[%[(PW.pt %[%[%[%[isinstance,bf,%[%[0|0],%[%[(.ty "tuple"),(.type "tuple"),_,∅,T.z_tuple,nofun,rfl,⋯,⋯|31]|1]|1]|6],(by intros;rfl)|24]|25],%[%[(bN hr.units),%[len,aA,%[%[0|0]|1]|6],%[0|2],(ae _)|14],%[%[(bN hr.units),%[aH,%[0|0],%[0|2],(λ _ _=>rfl)|12],(@aW _ _ _ _),(ae _)|14],%[%[%[%[isinstance,bf,%[%[aH,%[0|0],%[0|2],(λ _ _=>rfl)|12],%[%[(.ty "list"),(.type "list"),_,∅,T.z_list,nofun,rfl,⋯,⋯|31]|1]|1]|6],(by intros;rfl)|24]|25]|28]|22]|22]|22]),%[%[(@cO _ _ _ _)|13]|11],(@ah _)|16],%[%[%[%[iF,%[len,aA,%[%[aH,%[0|0],%[0|2],(λ _ _=>rfl)|12]|1]|6],%[3|0],(ae _)|33],%[%[(bG hr.units),%[_law_left,%[%[1|0],%[%[2|0],%[%[aH,%[0|0],%[0|2],(λ _ _=>rfl)|12],%[(@cO _ _ _ _)|1]|1]|1]|1]|3],%[(@cF _)|19],(ae _)|33]|37]|35]|13]|11]|9],?_⟩;rw [show aE ["_law_found", "_law_terms_here", "_law_goal", "_law_most"] [.ref x,.ref p,.int g,.int m]=[some (.ref x),some (.ref p),some (.int g),some (.int m)] from rfl];clear G__law_left;have hyl:ys.length=pp.length:=pl.1;have hml:(ys.length:Int)<=m:=by omega
  have sq9:(Str.ofString "apart" == Str.ofString "apart")=true:=by decide +kernel
  have pap:km H a1 pp:=⟨ys,h1,pl⟩;exists k;exists rep;exists pap;exists hyl;clear pl;ac_rfl;rw [yb];refine⟨zs,pp,htr,ht,pap (),h4,rep (),λ r2 H2 e2 h2=>?_⟩;clear hx h1;ac_rfl;intro r3 H3 _ e3 h3;have h2_3:=e3.at h2;have k':=k () H3 (e2.trans e3);clear k h2;ac_rfl
def mx(s:List V):Prop:=∀ v∈s,(∃ i,v=.int i)\/∃ z,v=.str z/\PyData.strOk z=true
def yv:V->PyData
 | .int i=>.int i
 | .str z=>.str z
 | _=>.none
theorem gU.pure{zs:List Tm3}{g:Int}{c:Bx}{s:List V}{more:List Bx}(h:gU zs g c s more):mx s:=by
 have so1:PyData.strOk (Str.ofString "low")=true:=by decide +kernel
 have so2:PyData.strOk (Str.ofString "high")=true:=by decide +kernel
 have so3:PyData.strOk (Str.ofString "rest")=true:=by decide +kernel
 have so4:PyData.strOk (Str.ofString "part")=true:=by decide +kernel
 intro v hv
 rcases h with ⟨rfl,_⟩|⟨rfl,_⟩|⟨d,rfl,_⟩|⟨k,a,rfl,_⟩
 ·rw [MV.mp hv];exact .inr ⟨_,rfl,so1⟩
 ·rw [MV.mp hv];exact .inr ⟨_,rfl,so2⟩
 ·simp only [MU,Na,Nt] at hv
  rcases hv with rfl|rfl
  ·exact .inr ⟨_,rfl,so3⟩
  ·exact .inl ⟨_,rfl⟩
 ·simp only [MU,Na,Nt] at hv
  rcases hv with rfl|rfl|rfl
  ·exact .inr ⟨_,rfl,so4⟩
  ·exact .inl ⟨_,rfl⟩
  ·exact .inl ⟨_,rfl⟩
theorem Rep.pure{zs:List Tm3}{g:Int}:∀ {p:List (List V)}{st st':List Bx},Rep zs g st p st'->∀ s∈p,mx s
 | [],_,_,_,_,h=>by cases h
 | _::_,[],_,h,_,_=>h.elim
 | s'::p,c::st,st',⟨m,h1,_,h3⟩,s,hs=>by
  rcases MU.mp hs with rfl|hs
  ·exact h1.pure
  ·exact Rep.pure h3 s hs
theorem qX{H:Hp}{f:V->Option PyData}:∀ {s:List V},mx s->aI (s.map (bp H f))=some (s.map yv)
 | [],_=>rfl
 | v::s,h=>by
  have ih:=qX (H:=H) (f:=f) (s:=s) λ u hu=>h u (MD _ hu)
  rcases h v MF with ⟨i,rfl⟩|⟨z,rfl,hz⟩
  ·rw [Nf,jT,bt,ih];rfl
  ·rw [Nf,jS,MI hz,bt,ih];rfl
theorem qW:∀ {s:List V},mx s->PyData.eqvAll (s.map yv) (s.map yv)=true
 | [],_=>cj
 | v::s,h=>by
  have ih:=qW (s:=s) λ u hu=>h u (MD _ hu);rw [Nf,aL,ih,Bool.and_true]
  rcases h v MF with ⟨i,rfl⟩|⟨z,rfl,hz⟩
  ·show PyData.eqv (.int i) (.int i)=true
   rw [vV];exact MY rfl
  ·show PyData.eqv (.str z) (.str z)=true
   rw [fP];exact N9 _
theorem pE{H:Hp}{f:V->Option PyData}:∀ {pp:List (List V)}{ys:List V},oC H pp ys->(∀ s∈pp,mx s)->aI (ys.map (bp H (bp H f)))=some (pp.map λ s=>PyData.tuple (s.map yv))
 | [],ys,h,_=>by rw [Pz h.1];rfl
 | s::pp,[],h,_=>by have:=h.1;simp at this
 | s::pp,y::ys,h,hp=>by
  obtain⟨q,rfl,hq⟩:=h.2 0 s y rfl rfl;have ih:=pE (H:=H) (f:=f) (pp:=pp) (ys:=ys) ⟨by have:=h.1;simpa using this,λ i z y a b=>h.2 (i+1) z y (by simpa using a) (by simpa using b)⟩ λ u hu=>hp u (MD _ hu)
  have e1:bp H (bp H f) (.ref q)=some (.tuple (s.map yv)):=by
   rw [fz,hq]
   show oH (bp H f) (.tup s)=_
   rw [fy,qX (hp s MF)];rfl
  rw [Nf,e1,bt,ih];rfl
theorem vJ:∀ {pp:List (List V)},(∀ s∈pp,mx s)->PyData.eqvAll (pp.map λ s=>PyData.tuple (s.map yv)) (pp.map λ s=>PyData.tuple (s.map yv))=true
 | [],_=>cj
 | s::pp,h=>by
  rw [Nf,aL,cT,qW (h s MF),vJ λ u hu=>h u (MD _ hu)];rfl
theorem Bs:∀ c:Bx,opn c<=c.length
 | []=>MG _
 | b::c=>by
  have:=Bs c
  show (if b.1 < b.2 then 1 else 0)+opn c<=c.length+1
  split<;>omega
def kl:List Tm3->Bool
 | []=>true
 | z::zs=>decide (cL zs < z.1) && kl zs
theorem gv:∀ {zs:List Tm3},kl zs=true ↔ kn zs
 | []=>⟨λ _=>trivial,λ _=>rfl⟩
 | z::zs=>by
  show (decide (cL zs < z.1) && kl zs)=true ↔ (cL zs < z.1/\kn zs)
  rw [PC,decide_eq_true_iff,gv]
theorem m6:∀ {zs:List Tm3}(k:Nat),kn zs->kn (zs.drop k)
 | _,0,h=>h
 | [],_+1,_=>trivial
 | _::_,k+1,h=>m6 k h.2
theorem xN{zs:List Tm3}{i:Nat}{z:Tm3}(hi:i < zs.length)(hz:zs[zs.length - 1 - i]? = some z):zs.drop (zs.length - (i+1))=z::zs.drop (zs.length - i):=by
 have hk:zs.length - (i+1) < zs.length:=by omega
 have e:zs.length - 1 - i=zs.length - (i+1):=by omega
 rw [e,Mx hk] at hz;rw [OP hk,Nh hz,show zs.length - (i+1)+1=zs.length - i by omega]
abbrev nK  (p:Addr) (H:Hp) (Q:VK) (E:XK):Prop:=∃ zs:List Tm3,gA H p zs/\cK zs/\Q (.bl (kl zs)) H
def pj  : Sp:=λ vs H Q E=>∃ (p:Addr),vs=[.ref p]/\(nK  p H Q E)
theorem ye  (p:Addr) (H:Hp) (Q:VK) (E:XK):pj  [.ref p] H Q E=(nK  p H Q E):=qk (f:=λ (p:Addr)=>[.ref p]) (λ _ _ h=>by cases h;exact rfl) p
theorem xv  {vs:List V}{H:Hp}{Q:VK}{E:XK}(h:pj  vs H Q E):vs.length=1:=oF h λ _=>rfl
theorem lT(T:Tx K mg t):bj P w K mg base CX0 1 t.a__law_falls t.d__law_falls ["_law_terms_here"] pj:=by
 refine T.F__law_falls.ok bS (λ vs H Q E h=>xv h) (λ c A o s H vs Q E hr h=>?_)
 ·obtain⟨p,rfl,zs,⟨ts,hp,al⟩,ht,k⟩:=h;refine⟨_,%[%[1,bS,%[0|2]|4],%[%[M7,rfl,(@Gn _ _ _ _ _ _ ∅ T.z_reversed %[%[0|0]|1] ∅),(%[(3),rfl,%[%[2,bS|5],%[%[3,bS|5],%[%[4,bS|5],(@aw _),∅|15],∅|15],∅|15],∅,∅|20].mono λ _ _ _ _ h=>aX h),%[%[%[iF,%[2|0],%[1|0],(ae _)|14],%[%[(@cO _ _ _ _)|13]|11],(@ah _)|16],%[%[1,bS,%[aD,%[1|0],%[bO,%[2|0],%[aB,%[4|0],%[3|0]|10]|10]|10]|4]|11]|9],(by intros;rfl)|30],%[%[(@cO _ _ _ _)|13]|11]|9]|9],?_⟩;rw [show aE ["_law_terms_here", "_law_below", "_law_times", "_law_low", "_law_high"] [.ref p]=[some (.ref p),none,none,none,none] from rfl];have htl:ts.length=zs.length:=al.1;exists al;exists k;exists htl;ac_rfl;refine EC (xs:=ts) (λ i σ H'=>∃ v2 v3 v4:Option V,σ=[some (.ref p),some (.int (cL (zs.drop (zs.length - i)))),v2,v3,v4]/\H'=H/\kn (zs.drop (zs.length - i))) ⟨none,none,none,by rw [Pw,O1];rfl,rfl,by rw [Pw,O1];trivial⟩ (λ i σ H' _ ⟨_,_,_,_,e,_⟩=>by rw [e];exact SqL.of hp) ?_ ?_
  ·rintro i x _ _ hi hx ⟨v2,v3,v4,rfl,rfl,hf⟩;rename_i H;have hi':i < zs.length:=by rw [←htl ()];exact hi
   rw [htl ()] at hx;have hk:zs.length - 1 - i < zs.length:=by omega
   obtain⟨tq,rfl,htq⟩:=(al ()).2 _ zs[zs.length - 1 - i] x (Mx hk) hx;have ed:=xN hi' (Mx hk);have tt:=(ht.all _ (Nx hk));generalize zs[zs.length - 1 - i]=z at *;have ew:cL (zs.drop (zs.length - (i+1)))=cL (zs.drop (zs.length - i))+z.1 * (z.2.2 - z.2.1):=by rw [ed];show _+_=_;omega
   rw [ew]
   have hfal:z.1<=cL (zs.drop (zs.length - i))->kl zs=false:=λ hle=>by
    cases hb:kl zs with
    | false=>rfl
    | true=>
     have:=m6 (zs.length - (i+1)) (gv.mp hb);rw [ed] at this;have h1:cL (zs.drop (zs.length - i)) < z.1:=this.1;omega
   have hgo:¬ z.1<=cL (zs.drop (zs.length - i))->kn (zs.drop (zs.length - (i+1))):=λ hn=>by
    rw [ed];exact⟨by omega,hf⟩
   have cm:iE z.1 (z.2.2 - z.2.1):=.inl ⟨by omega,by omega⟩;generalize cL (zs.drop (zs.length - i))=w0 at *;exists hgo;exists hfal;clear ed ew hx hi hf
   by_cases hle:z.1<=w0
   ·have k':=k ();rw [hfal () hle] at k';clear k hgo hfal;simp! only [↓aN]
   ·have hg:=hgo () hle;exists hg;clear k hgo hfal;simp! only [↓aN];exact⟨_,_,_,rfl,hg ()⟩
  ·rintro _ _ ⟨v2,v3,v4,rfl,rfl,hf⟩;rename_i H;rw [htl (),Nat.sub_self] at hf;have k':=k ();rw [show kl zs=true from gv.mpr hf] at k';clear k hf;ac_rfl
def A7(zs:List Tm3):Int:=if kl zs=true then (if 1+4 * (zs.length:Int) < 2 * fH (zs.map λ z=>z.2) - 1 then 1+4 * (zs.length:Int) else 2 * fH (zs.map λ z=>z.2) - 1) else 2 * fH (zs.map λ z=>z.2) - 1
theorem CY{zs:List Tm3}{g m:Int}(ht:cK zs)(hm:0<=m)(ho:mq zs g m.toNat [zs.map λ z=>z.2] []=none):m < A7 zs:=by
 have hz:∀ z∈zs,(1:Int)<=z.1:=λ z hz=>(ht.all z hz).1.1;have hok:∀ c∈[zs.map λ z=>z.2],dJ zs c:=λ c hc=>by rw [MV.mp hc];exact iu ht
 have key:∀ pf,Ja zs g pf->¬ pf (zs.map λ z=>z.2)<=m:=λ pf hp hle=>k9 hz hp _ _ _ hok (by show pf _+0<=_;omega) ho;have hv:=key _ (Gr hz);have hv':¬ 2 * fH (zs.map λ z=>z.2) - 1<=m:=hv;unfold A7;split
 ·rename_i hf;split
  ·have h1:=(yz (zs:=zs) (g:=g) (c:=zs.map λ z=>z.2)).2;have h2:=Bs (zs.map λ z=>z.2);rw [MK] at h2;have:=key (pfF zs g) ⟨λ c _=>yz.1,λ c q hc he _ hq=>CL hz (gv.mp hf) hc he hq⟩;omega
  ·omega
 ·omega
abbrev nN  (p:Addr) (H:Hp) (Q:VK) (E:XK):Prop:=∃ zs:List Tm3,gA H p zs/\cK zs/\∀ H',Ext H H'->Q (.int (A7 zs)) H'
def pz  : Sp:=λ vs H Q E=>∃ (p:Addr),vs=[.ref p]/\(nN  p H Q E)
theorem ni  (p:Addr) (H:Hp) (Q:VK) (E:XK):pz  [.ref p] H Q E=(nN  p H Q E):=qk (f:=λ (p:Addr)=>[.ref p]) (λ _ _ h=>by cases h;exact rfl) p
theorem xy  {vs:List V}{H:Hp}{Q:VK}{E:XK}(h:pz  vs H Q E):vs.length=1:=oF h λ _=>rfl
theorem gy(T:Tx K mg t):bj P w K mg base CX0 2 t.a__law_bound t.d__law_bound ["_law_terms_here"] pz:=by
 have G__law_product:=%[jv|47];have G__law_falls:=%[lT|47];refine T.F__law_bound.ok fe (λ vs H Q E h=>xy h) (λ c A o s H vs Q E hr h=>?_)
 ·obtain⟨p,rfl,zs,htr,ht,k⟩:=h;refine⟨_,%[%[1,fe,%[aB,%[bO,%[0|2],%[_law_product,%[%[0|0]|1]|3]|10],%[0|2]|10]|4],%[%[%[%[_law_falls,%[%[0|0]|1]|3],(by intros;rfl)|24],%[%[1,fe,%[min,(cU rfl),%[%[1|0],%[%[aD,%[0|2],%[bO,%[0|2],%[len,aA,%[%[0|0]|1]|6]|10]|10]|1]|1]|6]|4]|11],(@ah _)|16],%[%[%[1|0]|13]|11]|9]|9],?_⟩;rw [show aE ["_law_terms_here", "_law_bound_here"] [.ref p]=[some (.ref p),none] from rfl];clear G__law_product G__law_falls;have hl:=ht.len;exists k;ac_rfl;rw [x8];refine⟨zs,htr,hl,λ z hz=>by have:=ht.all z hz;omega,λ H1 e1=>?_⟩;have htr1:=cu htr e1;obtain⟨ts,hp1,al⟩:=htr1;have hts:(ts.length:Int)=(zs.length:Int):=by rw [al.1]
  have k':=k () H1 e1;unfold A7 at k';generalize fH (zs.map λ z=>z.2)=v at *;have cm:iE 2 v:=.inl ⟨by decide,by decide⟩;have cm4:iE 4 (zs.length:Int):=.inl ⟨by decide,by decide⟩;have htr1:gA H1 p zs:=⟨ts,hp1,al⟩;exists htr1;exists k';clear k htr al;ac_rfl;rw [ye];refine⟨zs,htr1 (),ht,?_⟩
  cases hb:kl zs with
  | false=>
   have k2:=k' ();rw [hb,MH ⋯] at k2;clear k';ac_rfl
  | true=>
   have k2:=k' ();rw [hb,MI rfl] at k2;clear k'
   by_cases hlt:1+4 * (zs.length:Int) < 2 * v - 1
   ·rw [MI hlt] at k2;ac_rfl
   ·rw [MH hlt] at k2;ac_rfl
theorem km.ext{H H':Hp}{a:Addr}{pp:List (List V)}(h:km H a pp)(e:Ext H H'):km H' a pp:=by
 obtain⟨ys,h1,h2⟩:=h;exact⟨ys,e.at h1,h2.ext e⟩
def EY(H:Hp)(x:Addr)(A B:List (Int × Int))(g:Int):Prop:=∃ (ys zs:List Int) (a1 a2:Addr),H x=some (.tup [.str "shared",.ref a1,.ref a2])/\H a1=some (.tup (ys.map V.int))/\H a2=some (.tup (zs.map V.int))/\InA A ys/\InA B zs/\iD A ys=g+iD B zs
def E2(H:Hp)(x:Addr)(A B:List (Int × Int))(g m:Int):Prop:=∃ (pp:List (List V)) (a1:Addr),H x=some (.tup [.str "apart",.ref a1])/\km H a1 pp/\(pp.length:Int)<=m/\pp.length<=100000/\(∀ s∈pp,mx s)/\∀ ks,oE ks (ao (A.map af) (B.map af))->Rep (ag ks (ao (A.map af) (B.map af))) g [(ag ks (ao (A.map af) (B.map af))).map λ z=>z.2] pp []
def LR(H:Hp)(x:Addr)(A B:List (Int × Int))(m:Int):Prop:=H x=some (.tup [.str "open"])/\∀ ks,oE ks (ao (A.map af) (B.map af))->m < A7 (ag ks (ao (A.map af) (B.map af)))
theorem EY.ext{H H':Hp}{x:Addr}{A B:List (Int × Int)}{g:Int}(h:EY H x A B g)(e:Ext H H'):EY H' x A B g:=by
 obtain⟨ys,zs,a1,a2,h1,h2,h3,r⟩:=h;exact⟨ys,zs,a1,a2,e.at h1,e.at h2,e.at h3,r⟩
theorem E2.ext{H H':Hp}{x:Addr}{A B:List (Int × Int)}{g m:Int}(h:E2 H x A B g m)(e:Ext H H'):E2 H' x A B g m:=by
 obtain⟨pp,a1,h1,h2,r⟩:=h;exact⟨pp,a1,e.at h1,h2.ext e,r⟩
abbrev sk  (x:Addr) (p:Addr) (q:Addr) (g:Int) (m:Int) (H:Hp) (Q:VK) (E:XK):Prop:=∃ A B:List (Int × Int),cI H p A/\cI H q B/\AxG A/\AxG B/\(EY H x A B g\/E2 H x A B g m)/\∀ H',Ext H H'->Q (.bl true) H'
def uX  : Sp:=λ vs H Q E=>∃ (x:Addr) (p:Addr) (q:Addr) (g:Int) (m:Int),vs=[.ref x,.ref p,.ref q,.int g,.int m]/\(sk  x p q g m H Q E)
theorem rN  (x:Addr) (p:Addr) (q:Addr) (g:Int) (m:Int) (H:Hp) (Q:VK) (E:XK):uX  [.ref x,.ref p,.ref q,.int g,.int m] H Q E=(sk  x p q g m H Q E):=Jg (f:=λ (x:Addr) (p:Addr) (q:Addr) (g:Int) (m:Int)=>[.ref x,.ref p,.ref q,.int g,.int m]) (λ _ _ _ _ _ _ _ _ _ _ h=>by cases h;exact⟨rfl,rfl,rfl,rfl,rfl⟩) x p q g m
theorem Ac  {vs:List V}{H:Hp}{Q:VK}{E:XK}(h:uX  vs H Q E):vs.length=5:=Jh h λ _ _ _ _ _=>rfl
theorem jH(T:Tx K mg t):bj P w K mg base CX0 6 t.a__law_answer t.d__law_answer ["_law_found", "_law_one", "_law_other", "_law_goal", "_law_most"] uX:=by
 have G__law_met:=%[pS|47];have G__law_terms:=%[b6|47];have G__law_apart:=%[lV|47];refine T.F__law_answer.ok mi (λ vs H Q E h=>Ac h) (λ cdv A' outer s H vs Q E hr h=>?_)
 ·obtain⟨x,p,q,g,m,rfl,A,B,hp,hq,kA,kB,an,k⟩:=h;refine⟨_,%[%[(PW.pt %[%[%[isinstance,bf,%[%[0|0],%[%[(.ty "tuple"),(.type "tuple"),_,∅,T.z_tuple,nofun,rfl,⋯,⋯|31]|1]|1]|6],(by intros;rfl)|24],%[%[(bG hr.units),%[len,aA,%[%[0|0]|1]|6],%[0|2],(ae _)|14]|34]|32]),%[%[%[_law_met,%[%[0|0],%[%[1|0],%[%[2|0],%[%[3|0]|1]|1]|1]|1]|3]|13]|11],(@ah _)|16],%[%[%[_law_apart,%[%[0|0],%[%[_law_terms,%[%[1|0],%[%[2|0]|1]|1]|3],%[%[3|0],%[%[4|0]|1]|1]|1]|1]|3]|13]|11]|9],?_⟩;rw [show aE ["_law_found", "_law_one", "_law_other", "_law_goal", "_law_most"] [.ref x,.ref p,.ref q,.int g,.int m]=[some (.ref x),some (.ref p),some (.ref q),some (.int g),some (.int m)] from rfl];clear G__law_met G__law_terms G__law_apart;have a3:=kA.len;have b3:=kB.len;exists k
  rcases an with ⟨ys,zs,a1,a2,h1,h2,h3,iA,iB,hd⟩|⟨pp,a1,h1,pap,hm,h4,_,rep⟩
  ·exists iA;exists iB;exists hd;ac_rfl;rw [AY];refine⟨A,B,ys,zs,a1,a2,h1,h2,h3,hp,hq,by omega,by omega,iA (),iB (),kA.bnd,kB.bnd,hd (),λ H1 e1=>?_⟩;exact k () H1 e1
  ·exists rep;exists pap;ac_rfl;rw [dZ];refine⟨A,B,hp,hq,by omega,by omega,kA.one,kB.one,λ ks r2 H2 e2 t2 ko=>?_⟩;ac_rfl;rw [ud];exact⟨_,pp,a1,e2.at h1,(pap ()).ext e2,t2,(kA.tms kB ko).1,hm,h4,rep () ks ko,λ H3 e3=>k () H3 (e2.trans e3)⟩
abbrev j7  (x:Addr) (p:Addr) (q:Addr) (g:Int) (m:Int) (H:Hp) (Q:VK) (E:XK):Prop:=∃ A B:List (Int × Int),cI H p A/\cI H q B/\AxG A/\AxG B/\(LR H x A B m\/EY H x A B g\/E2 H x A B g m)/\∀ H',Ext H H'->Q (.bl true) H'
def kW  : Sp:=λ vs H Q E=>∃ (x:Addr) (p:Addr) (q:Addr) (g:Int) (m:Int),vs=[.ref x,.ref p,.ref q,.int g,.int m]/\(j7  x p q g m H Q E)
theorem fB  (x:Addr) (p:Addr) (q:Addr) (g:Int) (m:Int) (H:Hp) (Q:VK) (E:XK):kW  [.ref x,.ref p,.ref q,.int g,.int m] H Q E=(j7  x p q g m H Q E):=Jg (f:=λ (x:Addr) (p:Addr) (q:Addr) (g:Int) (m:Int)=>[.ref x,.ref p,.ref q,.int g,.int m]) (λ _ _ _ _ _ _ _ _ _ _ h=>by cases h;exact⟨rfl,rfl,rfl,rfl,rfl⟩) x p q g m
theorem tM  {vs:List V}{H:Hp}{Q:VK}{E:XK}(h:kW  vs H Q E):vs.length=5:=Jh h λ _ _ _ _ _=>rfl
theorem lR(T:Tx K mg t):bj P w K mg base CX0 7 t.a__law_right t.d__law_right ["_law_found", "_law_one", "_law_other", "_law_goal", "_law_most"] kW:=by
 have G__law_bound:=%[gy|47];have G__law_terms:=%[b6|47];have G__law_answer:=%[jH|47];refine T.F__law_right.ok ou (λ vs H Q E h=>tM h) (λ cdv A' outer s H vs Q E hr h=>?_)
 ·obtain⟨x,p,q,g,m,rfl,A,B,hp,hq,kA,kB,an,k⟩:=h;refine⟨_,%[%[%[(bG hr.units),%[0|0],%[%[(@aW _ _ _ _)|1]|17],(ae _)|14],%[%[%[%[isinstance,bf,%[%[0|0],%[%[(.ty "tuple"),(.type "tuple"),_,∅,T.z_tuple,nofun,rfl,⋯,⋯|31]|1]|1]|6],%[%[eo,%[4|0],%[_law_bound,%[%[_law_terms,%[%[1|0],%[%[2|0]|1]|1]|3]|1]|3],(ae _)|33]|37]|35]|13]|11],(@ah _)|16],%[%[%[_law_answer,%[%[0|0],%[%[1|0],%[%[2|0],%[%[3|0],%[%[4|0]|1]|1]|1]|1]|1]|3]|13]|11]|9],?_⟩;rw [show aE ["_law_found", "_law_one", "_law_other", "_law_goal", "_law_most"] [.ref x,.ref p,.ref q,.int g,.int m]=[some (.ref x),some (.ref p),some (.ref q),some (.int g),some (.int m)] from rfl];clear G__law_bound G__law_terms G__law_answer;have a3:=kA.len;have b3:=kB.len;have so1:PyData.strOk (Str.ofString "apart")=true:=by decide +kernel
  have so2:PyData.strOk (Str.ofString "shared")=true:=by decide +kernel
  have so3:PyData.strOk (Str.ofString "open")=true:=by decide +kernel
  have sq1:(Str.ofString "apart" == Str.ofString "open")=false:=by decide +kernel
  have sq2:(Str.ofString "shared" == Str.ofString "open")=false:=by decide +kernel
  have sq3:(Str.ofString "open" == Str.ofString "open")=true:=by decide +kernel
  exists k;ac_rfl;intro t1 H1 _ e1 h1
  rcases an with ⟨hx,hb⟩|an|an
  ·have hx1:=e1.at hx;exists hb;clear hx;ac_rfl;rw [dZ];refine⟨A,B,ay hp e1,ay hq e1,by omega,by omega,kA.one,kB.one,λ ks r2 H2 e2 t2 ko=>?_⟩;have hlt:=hb () ks ko;have ht:=(kA.tms kB ko).1;generalize ag ks (ao (A.map af) (B.map af))=zs at *;clear hx1 h1;ac_rfl;rw [ni];refine⟨zs,t2,ht,λ H3 e3=>?_⟩;have k':=k () H3 (e1.trans (e2.trans e3));clear k;ac_rfl
  ·have an1:=an.ext e1;exists an1;obtain⟨ys,zs,a1,a2,g1,g2,g3,_⟩:=an1 ();clear an;ac_rfl;rw [rN];exact⟨A,B,ay hp e1,ay hq e1,kA,kB,.inl (an1 ()),λ H2 e2=>k () H2 (e1.trans e2)⟩
  ·have an1:=an.ext e1;exists an1;obtain⟨pp,a1,g1,⟨ys,g2,pl⟩,_,_,pur,_⟩:=an1 ();have d1:=pE (f:=bp H1 (bp H1 noD)) pl pur;clear an pl pur;ac_rfl;rw [rN];exact⟨A,B,ay hp e1,ay hq e1,kA,kB,.inr (an1 ()),λ H2 e2=>k () H2 (e1.trans e2)⟩
abbrev rX(C:Addr)(u:Addr)(v:Addr)(m:V)(H:Hp)(Q:VK)(E:XK):Prop:=∃ (r1 r2 f1 f2:Int) (A B:List (Int × Int)),aJ C H u r1 f1 A/\aJ C H v r2 f2 B/\mn A/\mn B/\(r1=r2->E1 H m)/\∀ H',Ext H H'->Q (.str (if r1=r2 then "most" else "pair")) H'
def uR(C:Addr):Sp:=λ vs H Q E=>∃ (u:Addr) (v:Addr) (m:V),vs=[.ref u,.ref v,m]/\(rX C u v m H Q E)
theorem lK(C:Addr)(u:Addr)(v:Addr)(m:V)(H:Hp)(Q:VK)(E:XK):uR C [.ref u,.ref v,m] H Q E=(rX C u v m H Q E):=qi (f:=λ (u:Addr) (v:Addr) (m:V)=>[.ref u,.ref v,m]) (λ _ _ _ _ _ _ h=>by cases h;exact⟨rfl,rfl,rfl⟩) u v m
theorem zW(C:Addr){vs:List V}{H:Hp}{Q:VK}{E:XK}(h:uR C vs H Q E):vs.length=3:=ql h λ _ _ _=>rfl
theorem ju(T:Tx K mg t):bj P w K mg base CX0 6 t.a__law_refused t.d__law_refused ["_law_here", "_law_there", "_law_most"] (uR t.a_View):=by
 have G_shares:=%[sS|47];refine T.F__law_refused.ok fF (λ vs H Q E h=>zW _ h) (λ cdv A' outer s H vs Q E hr h=>?_)
 ·obtain⟨u,v,m,rfl,ra,rb,f1,f2,A,B,vu,vv,hA,hB,hm,k⟩:=h;have hx1:=T.x_NoPair_PaceError;have hx2:=T.x_NoMost_PaceError;refine⟨_,%[(@Gh _ _ _ _ _ _ _ ⟨rfl,rfl,rfl⟩ (λ EX E pn hx=>%[%[(@zl _ _ _ _ _ _ _ _ _ _ _ _ _ _ _ _ G_shares (hr.mono ⋯) ∅ T.m_shares T.F_shares.kp T.b_shares .nil hx %[%[0|0],%[%[1|0],%[%[2|0]|1]|1]|1] ⋯ ∅ ∅),∅|36]|11]) (@Gp _ _ _ (3) _ _ _ _ _ _ _ _ fF.nd rfl rfl ∅ (.inl T.m_PaceError) (λ ee=>%[%[(PW.pt %[%[%[isinstance,(dX (K:=K) rfl),%[%[3|0],%[(@er _ _ (.ref t.a_NoCount) _ _ ∅ T.m_NoCount rfl ⋯)|1]|1]|6],(by intros;rfl)|24],%[%[%[%[isinstance,(dX (K:=K) rfl),%[%[3|0],%[%[(.ty "ValueError"),(.type "ValueError"),_,∅,T.z_ValueError,nofun,rfl,⋯,⋯|31]|1]|1]|6],(by intros;rfl)|24]|25],%[%[(bG hr.units),%[isinstance,(dX (K:=K) rfl),%[%[3|0],%[(@er _ _ (.ref t.a_NoPair) _ _ ∅ T.m_NoPair rfl ⋯)|1]|1]|6],%[isinstance,(dX (K:=K) rfl),%[%[3|0],%[(@er _ _ (.ref t.a_NoMost) _ _ ∅ T.m_NoMost rfl ⋯)|1]|1]|6],(ae _)|14]|28]|22]|22]),%[%[(@aW _ _ _ _)|13]|11],(@ah _)|16],%[%[%[aH,%[%[(@aW _ _ _ _),%[(@aW _ _ _ _)|1]|1]|19],%[m7,∅,T.z_int,nofun,%[%[isinstance,(dX (K:=K) rfl),%[%[3|0],%[(@er _ _ (.ref t.a_NoPair) _ _ ∅ T.m_NoPair rfl ⋯)|1]|1]|6]|1],⋯,⋯,∅,∅|38],(λ _ _=>rfl)|12]|13]|11]|9]) (@CJ _) ⋯)),%[%[(@aW _ _ _ _)|13]|11]|9],?_⟩;rw [show aE ["_law_here", "_law_there", "_law_most", "e"] [.ref u,.ref v,m]=[some (.ref u),some (.ref v),some (m),none] from rfl];clear G_shares;exists k;ac_rfl;rw [qc];refine⟨ra,rb,f1,f2,A,B,vu,vv,hA,hB,λ hne H1 e1=>?_,λ he=>⟨hm he,λ H1 e1=>?_⟩⟩
  ·rw [MH hne] at k;clear hm;ac_rfl;intro e oe he' hcl hdc hdat;have g4:(upd H1 e (qo oe)) e=some (qo oe):=aj;have e2:Ext H (upd H1 e (qo oe)):=e1.trans (Ext.new he');generalize upd H1 e (qo oe)=H2 at e2 g4;clear he';simp! only [T.e_NoPair,T.k_NoPair_NoCount,T.k_NoPair_NoPair,T.k_NoPair_NoMost,T.k_NoPair_ValueError];intro l3 H3 _ e3 h3;have g5:=e3.at g4;have k':=k () H3 (e2.trans e3);clear g4 k;simp! only [T.e_NoPair,T.k_NoPair_NoCount,T.k_NoPair_NoPair,T.k_NoPair_NoMost,T.k_NoPair_ValueError]
  ·rw [MI he] at k;clear hm;ac_rfl;intro e oe he' hcl hdc hdat;have g4:(upd H1 e (qo oe)) e=some (qo oe):=aj;have e2:Ext H (upd H1 e (qo oe)):=e1.trans (Ext.new he');generalize upd H1 e (qo oe)=H2 at e2 g4;clear he';simp! only [T.e_NoMost,T.k_NoMost_NoCount,T.k_NoMost_NoPair,T.k_NoMost_NoMost,T.k_NoMost_ValueError];intro l3 H3 _ e3 h3;have g5:=e3.at g4;have k':=k () H3 (e2.trans e3);clear g4 k;simp! only [T.e_NoMost,T.k_NoMost_NoCount,T.k_NoMost_NoPair,T.k_NoMost_NoMost,T.k_NoMost_ValueError]
theorem rq:∀ {zs:List Tm3},(∀ z∈zs,(0:Int)<=z.1/\z.2.1<=0/\0<=z.2.2)->-cL zs<=bJ zs (zs.map λ z=>z.2)/\bJ zs (zs.map λ z=>z.2)<=0/\0<=cE zs (zs.map λ z=>z.2)/\cE zs (zs.map λ z=>z.2)<=cL zs
 | [],_=>⟨M5 _,M5 _,M5 _,M5 _⟩
 | z::zs,h=>by
  have ih:=rq (zs:=zs) λ y hy=>h y (MD _ hy);obtain⟨h1,h2,h3⟩:=h z MF;obtain⟨s1,s2⟩:=bX z z.2 zs (zs.map λ z=>z.2);have m1:=OQ h1 h3;have m2:=OQ h1 (show 0<=-z.2.1 by omega);rw [Int.mul_neg] at m2;rw [Nf,s1,s2]
  show -(z.1 * (z.2.2 - z.2.1)+cL zs)<=_/\_/\_/\_<=z.1 * (z.2.2 - z.2.1)+cL zs
  rw [OY];omega
abbrev nE  (p:Addr) (q:Addr) (g:Int) (H:Hp) (Q:VK) (E:XK):Prop:=∃ A B:List (Int × Int),cI H p A/\cI H q B/\AxG A/\AxG B/\∀ (ks:List Int) (H':Hp),Ext H H'->oE ks (ao (A.map af) (B.map af))->Q (.bl (cz (ag ks (ao (A.map af) (B.map af))) ((ag ks (ao (A.map af) (B.map af))).map λ z=>z.2) g)) H'
def o8  : Sp:=λ vs H Q E=>∃ (p:Addr) (q:Addr) (g:Int),vs=[.ref p,.ref q,.int g]/\(nE  p q g H Q E)
theorem x9  (p:Addr) (q:Addr) (g:Int) (H:Hp) (Q:VK) (E:XK):o8  [.ref p,.ref q,.int g] H Q E=(nE  p q g H Q E):=qi (f:=λ (p:Addr) (q:Addr) (g:Int)=>[.ref p,.ref q,.int g]) (λ _ _ _ _ _ _ h=>by cases h;exact⟨rfl,rfl,rfl⟩) p q g
theorem xo  {vs:List V}{H:Hp}{Q:VK}{E:XK}(h:o8  vs H Q E):vs.length=3:=ql h λ _ _ _=>rfl
theorem jw(T:Tx K mg t):bj P w K mg base CX0 3 t.a__law_is_over t.d__law_is_over ["_law_one", "_law_other", "_law_goal"] o8:=by
 have G__law_terms:=%[b6|47];have G__law_ended:=%[gx|47];refine T.F__law_is_over.ok fG (λ vs H Q E h=>xo h) (λ cdv A' outer s H vs Q E hr h=>?_)
 ·obtain⟨p,q,g,rfl,A,B,hp,hq,kA,kB,k⟩:=h;refine⟨_,%[%[3,fG,%[_law_terms,%[%[0|0],%[%[1|0]|1]|1]|3]|4],%[%[%[_law_ended,%[%[3|0],%[%[2|0],%[%[(["_law_times", "_law_low", "_law_high", "_law_one", "_law_other", "_law_goal", "_law_terms_here"]),(3),(aK (aa cq) ["_law_one", "_law_other", "_law_goal", "_law_terms_here"] rfl rfl nofun),rfl,%[%[3|0]|23],(λ C s₀ H₀ ex pn=>(%[(3),rfl,%[%[(0),_,(show List.Nodup (["_law_times", "_law_low", "_law_high", "_law_one", "_law_other", "_law_goal", "_law_terms_here"]:List Str) from by decide +kernel),rfl,(Or.inl rfl),%[0|7]|18],%[%[(1),_,(show List.Nodup (["_law_times", "_law_low", "_law_high", "_law_one", "_law_other", "_law_goal", "_law_terms_here"]:List Str) from by decide +kernel),rfl,(Or.inl rfl),%[0|7]|18],%[%[(2),_,(show List.Nodup (["_law_times", "_law_low", "_law_high", "_law_one", "_law_other", "_law_goal", "_law_terms_here"]:List Str) from by decide +kernel),rfl,(Or.inl rfl),%[0|7]|18],(@aw _),∅|15],∅|15],∅|15],∅,∅|20].mono λ _ _ _ _ h=>aX h)),(λ C s₀ H₀ ex pn=>(@aM _)),(λ C s₀ H₀ ex pn=>%[%[%[1|0],%[%[2|0]|1]|1]|17]),(by intros;rfl)|27]|1]|1]|1]|3]|13]|11]|9],?_⟩;rw [show aE ["_law_one", "_law_other", "_law_goal", "_law_terms_here"] [.ref p,.ref q,.int g]=[some (.ref p),some (.ref q),some (.int g),none] from rfl];clear G__law_terms G__law_ended;have a3:=kA.len;have b3:=kB.len;exists k;ac_rfl;rw [dZ];refine⟨A,B,hp,hq,by omega,by omega,kA.one,kB.one,λ ks r1 H1 e1 t1 ko=>?_⟩;have ht:=(kA.tms kB ko).1;have k1:=λ (_:Unit)=>λ H' e=>k () ks H' e ko;generalize ag ks (ao (A.map af) (B.map af))=zs at *;obtain⟨ts,h1,al⟩:=t1;have h17:=ht.len;have wk:=fK (K:=K) (R:=trP) (λ _ _ _ _ h e=>h.ext e) h1 al;have htr:gA H1 r1 zs:=⟨ts,h1,al⟩;clear k ko al;ac_rfl;refine cx zs (λ _=>true) trP (λ D z y H'=>axP z.2 y H') wk.1 wk.2 (λ D z y H1 H2 h e=>axP.ext (a:=z.2) h e) (λ D z y H1 xs o h hD=>axP.upd (z:=z.2) h hD) (az %[0|8]) ?_ ?_
  ·intro D z y H' N1 N0 hz hD e _ ⟨q',hy,hq'⟩ k1' _;subst hy;have k2:=k1' rfl;clear k1' k1 wk htr h1;simp! only [↓kG,↓bc];intro t1 H6 ht1 e6 h6;exact k2 _ H6 e6 ⟨t1,rfl,h6⟩
  intro D zs2 H2 hD e2 h2 al2;rw [iC] at al2;have pr2:cI H2 D (zs.map λ z=>z.2):=⟨zs2,h2,gG al2⟩;clear al2 wk hD h2 h1;ac_rfl;rw [rM];exact⟨zs,_,cu htr e2,pr2,ht,iu ht,λ H3 e3=>k1 () H3 (e1.trans (e2.trans e3))⟩
def pM(l:List Int):List (Int × Int)->Int
 | []=>0
 | z::P=>(if ar z.1∈l then ar z.1 * (z.2 - 1) else 0)+pM l P
def sT(l:List Int)(f:Int->Int):Int:=l.foldr (λ t r=>t * f t+r) 0
theorem vy{P:List (Int × Int)}{z:Int × Int}:∀ {l:List Int},l.Nodup->sT l (gB (z::P))=(if ar z.1∈l then ar z.1 * (z.2 - 1) else 0)+sT l (gB P)
 | [],_=>rfl
 | t::l,h=>by
  obtain⟨h1,h2⟩:=Nq.mp h;have ih:=vy (P:=P) (z:=z) h2
  show t * gB (z::P) t+sT l (gB (z::P))=_+(t * gB P t+sT l (gB P))
  rw [ih,fk,Of]
  by_cases e:ar z.1=t
  ·subst e;rw [MI rfl,MH h1,MI MF];omega
  ·rw [MH e,NG]
   by_cases hm:ar z.1∈l
   ·rw [MI hm,MI (MD _ hm)];omega
   ·rw [MH hm,MH (λ q=>by rcases MU.mp q with q|q;exact e q;exact hm q)];omega
theorem Lc{l:List Int}(h:l.Nodup):∀ P:List (Int × Int),sT l (gB P)=pM l P
 | []=>by
  have:∀ l:List Int,sT l (gB [])=0:=λ l=>by
   induction l with
   | nil=>rfl
   | cons t l ih=>show t * 0+sT l (gB [])=0;rw [ih,NG];rfl
  exact this l
 | z::P=>by rw [vy h,Lc h P];rfl
theorem qK(P:List (Int × Int)):∀ l:List Int,cL (ag l P)=sT l (gB P)
 | []=>rfl
 | t::l=>by
  show t * (cc P t - eh P t)+cL (ag l P)=t * gB P t+sT l (gB P)
  rw [ir,qK P l]
theorem cv{xs:List V}{i:Int}{k:V->Prop}(P:V->Prop)(h0:0<=i)(h1:i < xs.length)(ha:∀ v∈xs,P v)(hk:∀ v,P v->k v):aV (atI xs i) k:=CW h0 h1 λ v hv=>hk v (ha v hv)
theorem AxG.sum{A B:List (Int × Int)}{ks:List Int}(hA:AxG A)(hB:AxG B)(hk:oE ks (ao (A.map af) (B.map af))):cL (ag ks (ao (A.map af) (B.map af)))<=80000000000000000/\∀ z∈ag ks (ao (A.map af) (B.map af)),(0:Int)<=z.1/\z.2.1<=0/\0<=z.2.2:=by
 have ht:=(hA.tms hB hk).1
 have one:∀ y∈ao (A.map af) (B.map af),(1:Int)<=y.2:=λ y hy=>by
  obtain⟨a,ha,_,e2,_⟩:=qY hy;rw [e2]
  rcases ha with ha|ha
  ·exact(hA.axes.2 a ha).1
  ·exact(hB.axes.2 a ha).1
 have kw:∀ {Z:List (Int × Int)},(∀ a∈Z,(1:Int)<=a.1)->wS (Z.map af)<=wS Z:=by
  intro Z
  induction Z with
  | nil=>intro _;exact M5 _
  | cons a Z ih=>
   intro h;have h1:=ih λ b hb=>h b (MD _ hb);have h2:=h a MF
   have h3:axW (af a)<=axW a:=by
    show ar (if a.1 > 1 then a.2 else 0) * (a.1 - 1)<=ar a.2 * (a.1 - 1)
    split
    ·exact M5 _
    ·rw [show a.1 - 1=0 by omega,NG,NG];exact M5 _
   show axW (af a)+wS (Z.map af)<=axW a+wS Z
   omega
 refine⟨?_,λ z hz=>?_⟩
 ·rw [qK,Lc hk.nd]
  have pMw:∀ (l:List Int) (P:List (Int × Int)),(∀ z∈P,(1:Int)<=z.2)->pM l P<=P.foldr (λ z r=>ar z.1 * (z.2 - 1)+r) 0:=by
   intro l P
   induction P with
   | nil=>intro _;exact M5 _
   | cons z P ih=>
    intro h;have h1:=ih λ y hy=>h y (MD _ hy);have h2:=OQ (pP z.1) (show 0<=z.2 - 1 by have:=h z MF;omega)
    show (if ar z.1∈l then ar z.1 * (z.2 - 1) else 0)+pM l P<=ar z.1 * (z.2 - 1)+P.foldr _ 0
    split<;>omega
  have fw:∀ (sg:Int),(sg=1\/sg=-1)->∀ (Z:List (Int × Int)) (r:Int),(Z.map λ a=>(sg * a.2,a.1)).foldr (λ z r=>ar z.1 * (z.2 - 1)+r) r=wS Z+r:=by
   intro sg hs Z
   induction Z with
   | nil=>intro r;exact(NS r).symm
   | cons a Z ih=>
    intro r
    have e:ar (sg * a.2)=ar a.2:=by unfold ar;rcases hs with rfl|rfl<;>omega
    show ar (sg * a.2) * (a.1 - 1)+(Z.map λ a=>(sg * a.2,a.1)).foldr (λ z r=>ar z.1 * (z.2 - 1)+r) r=axW a+wS Z+r
    rw [ih r,e]
    show axW a+_=_
    omega
  have h1:=pMw ks _ one;have e1:∀ Z:List (Int × Int),(Z.map λ a=>(a.2,a.1))=Z.map λ a=>(1 * a.2,a.1):=λ Z=>Oe λ a _=>by rw [Int.one_mul]
  have e2:∀ Z:List (Int × Int),(Z.map λ a=>(-a.2,a.1))=Z.map λ a=>(-1 * a.2,a.1):=λ Z=>Oe λ a _=>by rw [Int.neg_one_mul]
  have h2:(ao (A.map af) (B.map af)).foldr (λ z r=>ar z.1 * (z.2 - 1)+r) 0=wS (A.map af)+(wS (B.map af)+0):=by
   unfold ao;rw [List.foldr_append,e1,e2,fw (-1) (.inr rfl),fw 1 (.inl rfl)]
  rw [h2] at h1;have w1:=kw hA.one;have w2:=kw hB.one;have w3:=hA.wt;have w4:=hB.wt;omega
 ·have h1:=(ht.all z hz).1;unfold ag at hz;obtain⟨t,_,rfl⟩:=List.mem_map.mp hz;have hl:=vf one t;exact⟨by omega,hl.1,hl.2⟩
abbrev sf(K:PySem.W.Frag)(a:Addr)(ns:List Int)(s:Addr)(p:Addr)(H:Hp)(Q:VK)(E:XK):Prop:=s=a/\SqL K H a (ns.map V.int)/\ns.length<=63/\∃ zs:List Tm3,gA H p zs/\cK zs/\cL zs<=80000000000000000/\(∀ z∈zs,(0:Int)<=z.1/\z.2.1<=0/\0<=z.2.2)/\∀ (g:Int) (H':Hp),Ext H H'->(-80000000000002000<=g/\g<=80000000000002000)->Q (.int g) H'
def uU(K:W.Frag)(a:Addr)(ns:List Int):Sp:=λ vs H Q E=>∃ (s:Addr) (p:Addr),vs=[.ref s,.ref p]/\(sf K a ns s p H Q E)
theorem A1(K:W.Frag)(a:Addr)(ns:List Int)(s:Addr)(p:Addr)(H:Hp)(Q:VK)(E:XK):uU K a ns [.ref s,.ref p] H Q E=(sf K a ns s p H Q E):=qj (f:=λ (s:Addr) (p:Addr)=>[.ref s,.ref p]) (λ _ _ _ _ h=>by cases h;exact⟨rfl,rfl⟩) s p
theorem zZ(K:W.Frag)(a:Addr)(ns:List Int){vs:List V}{H:Hp}{Q:VK}{E:XK}(h:uU K a ns vs H Q E):vs.length=2:=qm h λ _ _=>rfl
theorem pT(T:Tx K mg t)(a:Addr)(ns:List Int):bj P w K mg base CX0 2 t.a__law_far t.d__law_far ["_law_script", "_law_terms_here"] (uU K a ns):=by
 have G__law_draw:=%[cy|47] a ns;have G__law_sums:=%[dq|47];refine T.F__law_far.ok fC (λ vs H Q E h=>zZ _ _ _ h) (λ cdv A' outer s H vs Q E hr h=>?_)
 ·obtain⟨_,p,rfl,rfl,hS,hl,zs,⟨ts,h1,al⟩,ht,hw,hz,k⟩:=h;rename_i a;refine⟨_,%[%[%[_law_sums,%[%[1|0],%[%[(["_law_times", "_law_low", "_law_high", "_law_script", "_law_terms_here", "_law_least", "_law_greatest", "_law_cell_here"]),(3),(aK (aa fq) ["_law_script", "_law_terms_here", "_law_least", "_law_greatest", "_law_cell_here"] rfl rfl nofun),rfl,%[%[1|0]|23],(λ C s₀ H₀ ex pn=>(%[(3),rfl,%[%[(0),_,(show List.Nodup (["_law_times", "_law_low", "_law_high", "_law_script", "_law_terms_here", "_law_least", "_law_greatest", "_law_cell_here"]:List Str) from by decide +kernel),rfl,(Or.inl rfl),%[0|7]|18],%[%[(1),_,(show List.Nodup (["_law_times", "_law_low", "_law_high", "_law_script", "_law_terms_here", "_law_least", "_law_greatest", "_law_cell_here"]:List Str) from by decide +kernel),rfl,(Or.inl rfl),%[0|7]|18],%[%[(2),_,(show List.Nodup (["_law_times", "_law_low", "_law_high", "_law_script", "_law_terms_here", "_law_least", "_law_greatest", "_law_cell_here"]:List Str) from by decide +kernel),rfl,(Or.inl rfl),%[0|7]|18],(@aw _),∅|15],∅|15],∅|15],∅,∅|20].mono λ _ _ _ _ h=>aX h)),(λ C s₀ H₀ ex pn=>(@aM _)),(λ C s₀ H₀ ex pn=>%[%[%[1|0],%[%[2|0]|1]|1]|17]),(by intros;rfl)|27]|1]|1]|3],(%[(2),rfl,%[%[2,fC|5],%[%[3,fC|5],(@aw _),∅|15],∅|15],∅,∅|20].mono λ _ _ _ _ h=>aX h),∅,∅,∅|39],%[%[4,fC,%[_law_draw,%[%[0|0],%[%[0|2],%[%[fD,%[0|2],%[0|2]|10]|1]|1]|1]|3]|4],%[%[%[aH,%[%[%[aD,%[aD,%[3|0],%[0|2]|10],%[br,%[cS,%[4|0],%[0|2]|10],%[0|2]|10]|10],%[%[aB,%[aB,%[2|0],%[0|2]|10],%[br,%[cS,%[4|0],%[0|2]|10],%[0|2]|10]|10]|1]|1]|19],%[br,%[4|0],%[0|2]|10],(λ _ _=>rfl)|12]|13]|11]|9]|9],?_⟩;rw [show aE ["_law_script", "_law_terms_here", "_law_least", "_law_greatest", "_law_cell_here"] [.ref a,.ref p]=[some (.ref a),some (.ref p),none,none,none] from rfl];clear G__law_draw G__law_sums;have h17:=ht.len;have wk:=fK (K:=K) (R:=trP) (λ _ _ _ _ h e=>h.ext e) h1 al;have htr:gA H p zs:=⟨ts,h1,al⟩;have gb:=rq hz;exists k;exists hz;clear al;ac_rfl;refine cx zs (λ _=>true) trP (λ D z y H'=>axP z.2 y H') wk.1 wk.2 (λ D z y H1 H2 h e=>axP.ext (a:=z.2) h e) (λ D z y H1 xs o h hD=>axP.upd (z:=z.2) h hD) (az %[0|8]) ?_ ?_
  ·intro D z y H' N1 N0 hz' hD e _ ⟨q',hy,hq'⟩ k1' _;subst hy;have k2:=k1' rfl;clear k1' k wk htr h1 hS gb hz;simp! only [↓kG,↓bc];intro t1 H6 ht1 e6 h6;exact k2 _ H6 e6 ⟨t1,rfl,h6⟩
  intro D zs2 H2 hD e2 h2 al2;rw [iC] at al2;have pr2:cI H2 D (zs.map λ z=>z.2):=⟨zs2,h2,gG al2⟩;have hS2:=e2.2 K a _ hS;clear al2 wk hD h2 h1 hS;ac_rfl;rw [cW];refine⟨zs,_,cu htr e2,pr2,ht,by rw [MK],λ r3 H3 e3 h3=>?_⟩;have hS3:=e3.2 K a _ hS2;generalize bJ zs (zs.map λ z=>z.2)=l at *;generalize cE zs (zs.map λ z=>z.2)=gr at *;clear hS2 pr2 htr;ac_rfl;rw [aU];refine⟨hS3,hl,⟨by decide,by decide⟩,by decide,λ c c0 c1=>?_⟩;have c2:0<=c % 2/\c % 2 < 2:=by omega
  ac_rfl;intro l4 H4 _ e4 h4;clear h3 hS3;ac_rfl;refine cv (λ v=>∃ z:Int,v=.int z/\-80000000000002000<=z/\z<=80000000000002000) c2.1 (by simpa using c2.2) (λ v hv=>?_) λ v hv=>?_
  ·simp only [MU,Na,Nt] at hv
   rcases hv with rfl|rfl
   ·exact⟨_,rfl,by omega,by omega⟩
   ·exact⟨_,rfl,by omega,by omega⟩
  obtain⟨z,rfl,z0,z1⟩:=hv;exact k () z H4 (e2.trans (e3.trans e4)) ⟨z0,z1⟩
abbrev j8(K:PySem.W.Frag)(a:Addr)(ns:List Int)(s:Addr)(i:Int)(p:Addr)(H:Hp)(Q:VK)(E:XK):Prop:=s=a/\SqL K H a (ns.map V.int)/\ns.length<=63/\0<=i/\i<=60/\∃ A0:List (Int × Int),cI H p A0/\A0.length<=4/\(∀ b∈A0,-100000000000000000<=b.2/\b.2<=100000000000000000)/\∀ (A:List (Int × Int)) (r:Addr) (H':Hp),Ext H H'->cI H' r A->AxG A->Q (.ref r) H'
def kX(K:W.Frag)(a:Addr)(ns:List Int):Sp:=λ vs H Q E=>∃ (s:Addr) (i:Int) (p:Addr),vs=[.ref s,.int i,.ref p]/\(j8 K a ns s i p H Q E)
theorem jY(K:W.Frag)(a:Addr)(ns:List Int)(s:Addr)(i:Int)(p:Addr)(H:Hp)(Q:VK)(E:XK):kX K a ns [.ref s,.int i,.ref p] H Q E=(j8 K a ns s i p H Q E):=qi (f:=λ (s:Addr) (i:Int) (p:Addr)=>[.ref s,.int i,.ref p]) (λ _ _ _ _ _ _ h=>by cases h;exact⟨rfl,rfl,rfl⟩) s i p
theorem tN(K:W.Frag)(a:Addr)(ns:List Int){vs:List V}{H:Hp}{Q:VK}{E:XK}(h:kX K a ns vs H Q E):vs.length=3:=ql h λ _ _ _=>rfl
theorem lS(T:Tx K mg t)(a:Addr)(ns:List Int):bj P w K mg base CX0 2 t.a__law_great t.d__law_great ["_law_script", "_law_at", "_law_pool"] (kX K a ns):=by
 have G__law_draw:=%[cy|47] a ns;refine T.F__law_great.ok aP (λ vs H Q E h=>tN _ _ _ h) (λ cdv A' outer s H vs Q E hr h=>?_)
 ·obtain⟨_,i0,p,rfl,rfl,hS,hl,i1,i2,A0,⟨ts,hp,al⟩,hA0,hb0,kk⟩:=h;rename_i a;refine⟨_,%[%[3,aP,%[(@cF _)|19]|4],%[%[M7,rfl,(@dP _ _ _ _ _ _ ∅ T.z_range %[%[_law_draw,%[%[0|0],%[%[1|0],%[%[0|2]|1]|1]|1]|3]|1] ∅),%[4,aP|5],%[%[5,aP,%[_law_draw,%[%[0|0],%[%[aD,%[aD,%[1|0],%[0|2]|10],%[4|0]|10],%[%[fD,%[0|2],%[0|2]|10]|1]|1]|1]|3]|4],%[%[6,aP,%[aH,%[%[%[aD,%[0|2],%[br,%[cS,%[5|0],%[0|2]|10],%[0|2]|10]|10],%[%[aD,%[0|2],%[br,%[cS,%[5|0],%[0|2]|10],%[fD,%[0|2],%[0|2]|10]|10]|10],%[%[aD,%[0|2],%[br,%[cS,%[5|0],%[0|2]|10],%[0|2]|10]|10],%[%[0|2]|1]|1]|1]|1]|19],%[br,%[5|0],%[0|2]|10],(λ _ _=>rfl)|12]|4],%[%[7,aP,%[il,%[fD,%[0|2],%[0|2]|10],%[6|0]|10]|4],%[%[8,aP,%[il,%[5|0],%[fD,%[0|2],%[0|2]|10]|10]|4],%[%[9,aP,%[aH,%[%[%[aB,%[br,%[8|0],%[aD,%[bO,%[0|2],%[7|0]|10],%[0|2]|10]|10],%[7|0]|10],%[%[aB,%[br,%[8|0],%[0|2]|10],%[0|2]|10],%[%[0|2],%[%[aB,%[br,%[8|0],%[0|2]|10],%[0|2]|10]|1]|1]|1]|1]|19],%[br,%[cS,%[5|0],%[0|2]|10],%[0|2]|10],(λ _ _=>rfl)|12]|4],%[%[(PW.pt %[%[(bN hr.units),%[2|0],%[(@cF _)|19],(ae _)|14],%[%[(bG hr.units),%[br,%[cS,%[5|0],%[0|2]|10],%[0|2]|10],%[0|2],(ae _)|14]|34]|32]),%[%[10,aP,%[aH,%[aH,%[2|0],%[br,%[8|0],%[len,aA,%[%[2|0]|1]|6]|10],(λ _ _=>rfl)|12],%[0|2],(λ _ _=>rfl)|12]|4],%[%[%[iF,%[abs,bC,%[%[10|0]|1]|6],%[7|0],(ae _)|14],%[%[9,aP,%[aH,%[%[%[10|0],%[%[aB,%[0|2],%[10|0]|10]|1]|1]|19],%[br,%[cS,%[8|0],%[0|2]|10],%[0|2]|10],(λ _ _=>rfl)|12]|4]|11],(@ah _)|16]|11]|9],(@ah _)|16],%[%[%[M6,NL,NK,dQ,%[3|0],%[%[%[%[6|0],%[%[9|0]|1]|1]|17]|1],∅,∅,∅,∅,∅|42],∅|36]|11]|9]|9]|9]|9]|9]|9],(by intros;rfl)|30],%[%[%[3|0]|13]|11]|9]|9],?_⟩;rw [show aE ["_law_script", "_law_at", "_law_pool", "_law_axes_here", "_law_k", "_law_cell_here", "_law_size", "_law_most", "_law_wide", "_law_pace", "_law_same"] [.ref a,.int i0,.ref p]=[some (.ref a),some (.int i0),some (.ref p),none,none,none,none,none,none,none,none] from rfl];clear G__law_draw;have htl:ts.length=A0.length:=al.1;exists kk;exists al;exists hb0;ac_rfl;intro r H1 hr1 e1 h1;have hS1:=e1.2 K a _ hS;have hr0:=hr1;clear hr1;ac_rfl;rw [aU];refine⟨hS1,hl,⟨by omega,by omega⟩,by decide,λ n n0 n1=>?_⟩;ac_rfl;refine⟨by omega,by omega,?_⟩;refine pL (λ j σ H'=>∃ (A:List (Int × Int)) (ya:List V) (v4 v5 v6 v7 v8 v9 v10:Option V),σ=[some (.ref a),some (.int i0),some (.ref p),some (.ref r),v4,v5,v6,v7,v8,v9,v10]/\Ext H H'/\H' r=some (.lst ya)/\Al (λ z y=>axP z y H') A ya/\A.length=j/\(∀ a∈A,(1<=a.1/\a.1<=1000000000)/\ar a.2<=10000000000000000/\axW a<=10000000000000000)) ⟨[],[],none,none,none,none,none,none,none,rfl,e1,h1,Al.nil,rfl,λ a h=>by cases h⟩ ?_ ?_
  ·clear h1 hS1 e1;rintro j _ H2 hj ⟨A,ya,v4,v5,v6,v7,v8,v9,v10,rfl,e2,h2,alA,hAl,hsz⟩;have hj4:j < 4:=by have:j < n.toNat:=hj;omega
   have hS2:=e2.2 K a _ hS;have hyl:ya.length < sizeLine:=gT (by rw [alA.1,hAl];omega);exists alA;exists hsz;exists hAl;clear hj kk;simp! only [↓aN];rw [aU];refine⟨hS2,hl,⟨by omega,by omega⟩,by decide,λ c c0 c1=>?_⟩;ac_rfl;intro l3 H3 _ e3 h3;have c4:0<=c % 4/\c % 4 < 4:=by omega
   have c44:0<=c / 4 % 4/\c / 4 % 4 < 4:=by omega
   ac_rfl;refine cv (λ v=>∃ z:Int,v=.int z/\1<=z/\z<=1000000000) c4.1 (by simpa using c4.2) (λ v hv=>?_) λ v hv=>?_
   ·simp only [MU,Na,Nt] at hv
    rcases hv with rfl|rfl|rfl|rfl
    ·exact⟨_,rfl,by omega,by omega⟩
    ·exact⟨_,rfl,by omega,by omega⟩
    ·exact⟨_,rfl,by omega,by omega⟩
    ·exact⟨_,rfl,by decide,by decide⟩
   obtain⟨sz,rfl,sz0,sz1⟩:=hv;obtain⟨mo,hmo⟩:∃ mo,Int.fdiv 10000000000000000 sz=mo:=⟨_,rfl⟩;have hmo':10000000000000000 / sz=mo:=by rw [←hmo,ND _ %[0|8]]
   have mo1:sz * mo<=10000000000000000:=by rw [←hmo'];exact(iL _ %[0|8]).1
   have mo2:10000000<=mo:=by
    rw [←hmo'];exact(Int.le_ediv_iff_mul_le %[0|8]).mpr %[0|8]
   have mo3:mo<=10000000000000000:=by
    have:=Int.mul_le_mul_of_nonneg_right sz0 (show 0<=mo by omega);omega
   have dv1:sJ 10000000000000000 sz:=⟨by omega,by omega⟩;have dv2:sJ c 100000000000:=⟨by decide,by decide⟩;obtain⟨wd,hwd⟩:∃ wd,Int.fdiv c 100000000000=wd:=⟨_,rfl⟩;have wd0:0<=wd:=by rw [←hwd,ND _ ⋯];exact NT c0 ⋯
   have m0:0 < 2 * mo+1:=by omega
   have cm:iE 2 mo:=.inl ⟨by decide,by decide⟩;have md:0<=wd % (2 * mo+1)/\wd % (2 * mo+1) < 2 * mo+1:=⟨Nr _ %[0|8],NH _ m0⟩;clear hmo' c4 h3;ac_rfl;intro l4 H4 _ e4 h4;ac_rfl;refine cv (λ v=>∃ z:Int,v=.int z/\-mo<=z/\z<=mo) c44.1 (by simpa using c44.2) (λ v hv=>?_) λ v hv=>?_
   ·simp only [MU,Na,Nt] at hv
    rcases hv with rfl|rfl|rfl|rfl
    ·exact⟨_,rfl,by omega,by omega⟩
    ·exact⟨_,rfl,by omega,by omega⟩
    ·exact⟨_,rfl,by omega,by omega⟩
    ·exact⟨_,rfl,by omega,by omega⟩
   obtain⟨pc,rfl,pc0,pc1⟩:=hv;have e24:=e3.trans e4;have e04:=e2.trans e24;have h24:=e24.at h2;have alA4:=λ (_:Unit)=>(alA ()).imp λ _ _ t=>axP.ext t e24;have hp4:=e04.at hp;have al4:=λ (_:Unit)=>(al ()).imp λ _ _ t=>axP.ext t e04;clear h4 hS2 h2 alA e2 e3 e4 e24 dv1 dv2 cm md c44 hmo hwd;simp! only [-jL];refine iK (λ σ' H'=>∃ (pc:Int) (v10:Option V),σ'=[some (.ref a),some (.int i0),some (.ref p),some (.ref r),some (.int (0+(j:Int))),some (.int c),some (.int sz),some (.int mo),some (.int wd),some (.int pc),v10]/\Ext H4 H'/\(-mo<=pc/\pc<=mo)) (λ nx' hn=>?_) ?_
   ·exists hn;ac_rfl;intro l5 H5 _ e5 h5;have hp5:=e5.at hp4;have al5:=(al4 ()).imp λ _ _ t=>axP.ext t e5;have d1:=kK (H:=H5) (f:=bp H5 (bp H5 (bp H5 noD))) (uG al5);exists al5;have keep:∀ H',Ext H5 H'->∀ w10,nx' [some (.ref a),some (.int i0),some (.ref p),some (.ref r),some (.int (0+(j:Int))),some (.int c),some (.int sz),some (.int mo),some (.int wd),some (.int pc),w10] H':=λ H' e w10=>hn () _ H' ⟨pc,w10,rfl,e5.trans e,pc0,pc1⟩;exists keep;clear al4 hp4
    cases A0 with
    | nil=>
     have hts:ts=[]:=Ol.mp htl;subst hts;have kp:=keep () H5 (Ext.refl _) v10;clear hn keep al5;ac_rfl
    | cons b0 A0'=>
     rw [Nf,Nf] at d1;have tl0:0 < (ts.length:Int):=by rw [htl,Nc];omega
     by_cases h16:c / 16 % 3=1
     ·have ix0:=Nr wd (show (ts.length:Int) ≠ 0 by omega);have ix1:=NH wd tl0
      have pk:∀ v∈ts,∃ (q:Addr) (b1 b2:Int),v=.ref q/\H5 q=some (.tup [.int b1,.int b2])/\-100000000000000000<=b2/\b2<=100000000000000000:=λ v hv=>by
       obtain⟨m,hm⟩:=Ox.mp hv;have hml:m < (b0::A0').length:=by have:=(MB.mp hm).1;omega
       obtain⟨q,e,hq⟩:=(al5 ()).2 m (b0::A0')[m] v (Mx hml) hm;exact⟨q,_,_,e,hq,hb0 () _ (Nx hml)⟩
      exists pk;generalize hln:(ts.length:Int)=ln at *;clear htl al5 hb0;ac_rfl;refine cv (λ v=>∃ (q:Addr) (b1 b2:Int),v=.ref q/\H5 q=some (.tup [.int b1,.int b2])/\-100000000000000000<=b2/\b2<=100000000000000000) ix0 (by rw [hln];exact ix1) (pk ()) λ v hv=>?_;obtain⟨q,b1,b2,rfl,hq,q0,q1⟩:=hv;clear d1 hp5 pk;obtain⟨ab,hab⟩:∃ ab,(if b2 < 0 then -b2 else b2)=ab:=⟨_,rfl⟩
      have abb:b2<=ab/\-b2<=ab:=by rw [←hab];split<;>omega
      by_cases hle:ab<=mo
      ·ac_rfl;intro l6 H6 _ e6 h6;have w8:0<=wd / 8 % 2/\wd / 8 % 2 < 2:=by omega
       clear hq;ac_rfl;refine cv (λ v=>v=.int b2\/v=.int (0 - b2)) w8.1 (by simpa using w8.2) (λ v hv=>by simpa only [MU,Na,Nt] using hv) λ v hv=>?_
       rcases hv with rfl|rfl
       ·have hn':=hn () _ H6 ⟨b2,some (.int b2),rfl,e5.trans e6,by omega,by omega⟩;clear hn keep;ac_rfl
       ·have hn':=hn () _ H6 ⟨0 - b2,some (.int b2),rfl,e5.trans e6,by omega,by omega⟩;clear hn keep;ac_rfl
      ·have kp:=keep () H5 (Ext.refl _) (some (.int b2));clear hn keep;ac_rfl
     ·have kp:=keep () H5 (Ext.refl _) v10;clear hn keep al5 htl;ac_rfl
   clear pc0 pc1 hp4 al4 hb0 al htl;rintro _ H7 ⟨pc',w10,rfl,e7,pb⟩;have h27:=e7.at h24;have alA7:=λ (_:Unit)=>(alA4 ()).imp λ _ _ t=>axP.ext t e7;have e07:=e04.trans e7;have hab:ar pc'<=mo:=by unfold ar;omega
   have haw:axW (sz,pc')<=10000000000000000:=by
    have m:=Pj hab (show sz - 1<=sz by omega) %[0|8] %[0|8];rw [OM mo sz] at m
    show ar pc' * (sz - 1)<=_
    omega
   clear alA4 h24 e04 e7;ac_rfl;intro t8 H8 ht8 e8 h8;have h28:=e8.at h27;have n8:t8 ≠ r:=λ z=>by rw [z,h27] at ht8;cases ht8
   have al8:Al (λ z y=>axP z y (upd H8 r (.lst (ya++[.ref t8])))) (A++[(sz,pc')]) (ya++[.ref t8]):=iS ((alA7 ()).imp λ _ _ t=>axP.upd (axP.ext t e8) h28) (Al.cons' ⟨t8,rfl,by rw [ai n8];exact h8⟩ Al.nil);have e08:Ext H (upd H8 r (.lst (ya++[.ref t8]))):=(e07.trans e8).put hr0
   have sz8:∀ a∈A++[(sz,pc')],(1<=a.1/\a.1<=1000000000)/\ar a.2<=10000000000000000/\axW a<=10000000000000000:=λ b hb=>by
    rcases Nj.mp hb with hb|hb
    ·exact hsz () b hb
    ·rw [MV.mp hb];exact⟨⟨sz0,sz1⟩,by show ar pc'<=_;omega,haw⟩
   exists al8;exists sz8;clear ht8 alA7 h27 h8 hsz haw;ac_rfl;exact⟨_,_,_,_,_,_,_,_,_,rfl,e08,(by first|rfl|exact aj),al8 (),(by rw [ML,M8,hAl ()]),sz8 ()⟩
  ·rintro _ H2 ⟨A,ya,v4,v5,v6,v7,v8,v9,v10,rfl,e2,h2,alA,hAl,hsz⟩;have k':=kk () A r H2 e2 ⟨ya,h2,alA⟩ ⟨by rw [hAl];omega,hsz⟩;clear kk alA hsz h1 hS1;ac_rfl
abbrev j9(K:PySem.W.Frag)(a:Addr)(ns:List Int)(s:Addr)(H:Hp)(Q:VK)(E:XK):Prop:=s=a/\SqL K H a (ns.map V.int)/\ns.length<=63/\∀ (gh g:Int) (A B:List (Int × Int)) (p q r:Addr) (H':Hp),Ext H H'->H' r=some (.tup [.int gh,.ref p,.ref q,.int g])->cI H' p A->cI H' q B->AxG A->AxG B->(-100000000000000900<=g/\g<=100000000000000900)->(gh=0\/gh=1)->Q (.ref r) H'
def kY(K:W.Frag)(a:Addr)(ns:List Int):Sp:=λ vs H Q E=>∃ (s:Addr),vs=[.ref s]/\(j9 K a ns s H Q E)
theorem uc(K:W.Frag)(a:Addr)(ns:List Int)(s:Addr)(H:Hp)(Q:VK)(E:XK):kY K a ns [.ref s] H Q E=(j9 K a ns s H Q E):=qk (f:=λ (s:Addr)=>[.ref s]) (λ _ _ h=>by cases h;exact rfl) s
theorem tO(K:W.Frag)(a:Addr)(ns:List Int){vs:List V}{H:Hp}{Q:VK}{E:XK}(h:kY K a ns vs H Q E):vs.length=1:=oF h λ _=>rfl
theorem lU(T:Tx K mg t)(a:Addr)(ns:List Int):bj P w K mg base CX0 3 t.a__law_drawn t.d__law_drawn ["_law_script"] (kY K a ns):=by
 have G__law_draw:=%[cy|47] a ns;have G__law_great:=%[lS|47] a ns;have G__law_axes:=%[nV|47] a ns;have G__law_far:=%[pT|47] a ns;have G__law_terms:=%[b6|47];refine T.F__law_drawn.ok aZ (λ vs H Q E h=>tO _ _ _ h) (λ cdv A' outer s H vs Q E hr h=>?_)
 ·obtain⟨_,rfl,rfl,hS,hl,kk⟩:=h;rename_i a;refine⟨_,%[%[1,aZ,%[_law_draw,%[%[0|0],%[%[0|2],%[%[0|2]|1]|1]|1]|3]|4],%[%[%[(bG hr.units),%[1|0],%[0|2],(ae _)|14],%[%[2,aZ,%[_law_great,%[%[0|0],%[%[0|2],%[%[(@cF _)|19]|1]|1]|1]|3]|4],%[%[3,aZ,%[_law_great,%[%[0|0],%[%[0|2],%[%[2|0]|1]|1]|1]|3]|4]|11]|9],%[%[2,aZ,%[_law_axes,%[%[0|0],%[%[0|2],%[%[aD,%[0|2],%[_law_draw,%[%[0|0],%[%[0|2],%[%[0|2]|1]|1]|1]|3]|10]|1]|1]|1]|3]|4],%[%[3,aZ,%[_law_axes,%[%[0|0],%[%[0|2],%[%[aD,%[0|2],%[_law_draw,%[%[0|0],%[%[0|2],%[%[0|2]|1]|1]|1]|3]|10]|1]|1]|1]|3]|4]|11]|9]|16],%[%[4,aZ,%[aB,%[_law_draw,%[%[0|0],%[%[0|2],%[%[aH,%[%[%[0|2],%[%[fD,%[0|2],%[0|2]|10]|1]|1]|19],%[1|0],(λ _ _=>rfl)|12]|1]|1]|1]|3],%[aH,%[%[%[0|2],%[%[bO,%[0|2],%[fD,%[0|2],%[0|2]|10]|10]|1]|1]|19],%[1|0],(λ _ _=>rfl)|12]|10]|4],%[%[%[(bG hr.units),%[_law_draw,%[%[0|0],%[%[0|2],%[%[0|2]|1]|1]|1]|3],%[0|2],(ae _)|14],%[%[4,aZ,%[aB,%[br,%[4|0],%[0|2]|10],%[0|2]|10]|4]|11],(@ah _)|16],%[%[%[(bG hr.units),%[_law_draw,%[%[0|0],%[%[0|2],%[%[0|2]|1]|1]|1]|3],%[0|2],(ae _)|14],%[%[4,aZ,%[_law_far,%[%[0|0],%[%[_law_terms,%[%[2|0],%[%[3|0]|1]|1]|3]|1]|1]|3]|4]|11],(@ah _)|16],%[%[%[%[%[1|0],%[%[2|0],%[%[3|0],%[%[4|0]|1]|1]|1]|1]|17]|13]|11]|9]|9]|9]|9]|9],?_⟩;rw [show aE ["_law_script", "_law_great_here", "_law_one", "_law_other", "_law_goal"] [.ref a]=[some (.ref a),none,none,none,none] from rfl];clear G__law_draw G__law_great G__law_axes G__law_far G__law_terms;exists kk;ac_rfl;rw [aU];refine⟨hS,hl,⟨by decide,by decide⟩,by decide,λ gh g0 g1=>?_⟩;have ghc:gh=0\/gh=1:=by omega
  simp! only [-jL];refine iK (λ σ' H'=>∃ (A B:List (Int × Int)) (p q:Addr),σ'=[some (.ref a),some (.int gh),some (.ref p),some (.ref q),none]/\Ext H H'/\cI H' p A/\cI H' q B/\AxG A/\AxG B) (λ nx' hn=>?_) ?_
  ·exists hn;clear kk
   by_cases hg:gh=1
   ·subst hg;ac_rfl;intro l1 H1 _ e1 h1;have hS1:=e1.2 K a _ hS;ac_rfl;rw [jY];refine⟨rfl,hS1,hl,by decide,by decide,[],⟨[],h1,Al.nil⟩,by decide,(λ b hb=>by cases hb),λ A p H2 e2 pA kA=>?_⟩;have hS2:=e2.2 K a _ hS1;clear hS1 h1;ac_rfl;rw [jY];refine⟨rfl,hS2,hl,by decide,by decide,A,pA,kA.len,kA.bnd,λ B q H3 e3 pB kB=>?_⟩;have hn':=hn () _ H3 ⟨A,B,p,q,rfl,e1.trans (e2.trans e3),ay pA e3,pB,kA,kB⟩;clear hn hS2;ac_rfl
   ·ac_rfl;rw [aU];refine⟨hS,hl,⟨by decide,by decide⟩,by decide,λ d1 d10 d11=>?_⟩;ac_rfl;rw [nh];refine⟨rfl,hS,hl,by decide,by decide,by omega,by omega,λ A p H1 e1 p1 kA=>?_⟩;have hS1:=e1.2 K a _ hS;ac_rfl;rw [aU];refine⟨hS1,hl,⟨by decide,by decide⟩,by decide,λ d2 d20 d21=>?_⟩;ac_rfl;rw [nh];refine⟨rfl,hS1,hl,by decide,by decide,by omega,by omega,λ B q H2 e2 p2 kB=>?_⟩;have hn':=hn () _ H2 ⟨A,B,p,q,rfl,e1.trans e2,ay p1 e2,p2,AxK.g kA,AxK.g kB⟩;clear hn hS1;ac_rfl
  rintro _ H3 ⟨A,B,p,q,rfl,e3,pA,pB,kA,kB⟩;have hS3:=e3.2 K a _ hS;clear hS;ac_rfl;intro l4 H4 _ e4 h4;have hS4:=e4.2 K a _ hS3;clear hS3;ac_rfl;refine cv (λ v=>∃ z:Int,v=.int z/\1<=z/\z<=100000000000000000) g0 (by simpa using g1) (λ v hv=>?_) λ v hv=>?_
  ·simp only [MU,Na,Nt] at hv
   rcases hv with rfl|rfl
   ·exact⟨_,rfl,by decide,by decide⟩
   ·exact⟨_,rfl,by decide,by decide⟩
  obtain⟨mm,rfl,mm0,mm1⟩:=hv;clear h4;ac_rfl;rw [aU];refine⟨hS4,hl,⟨by decide,by decide⟩,by omega,λ c c0 c1=>?_⟩;ac_rfl;intro l5 H5 _ e5 h5;have hS5:=e5.2 K a _ hS4;clear hS4;ac_rfl;refine cv (λ v=>∃ z:Int,v=.int z/\0<=z/\z<=50000000000000000) g0 (by simpa using g1) (λ v hv=>?_) λ v hv=>?_
  ·simp only [MU,Na,Nt] at hv
   rcases hv with rfl|rfl
   ·exact⟨_,rfl,by decide,by decide⟩
   ·exact⟨_,rfl,by decide,by decide⟩
  obtain⟨z,rfl,z0,z1⟩:=hv;have e35:=e4.trans e5;have e05:=e3.trans e35;have pA5:=ay pA e35;have pB5:=ay pB e35;clear h5 pA pB e3 e4 e5 e35;obtain⟨go,hgo⟩:∃ go,c - z=go:=⟨_,rfl⟩;have gob:-100000000000000900<=go/\go<=100000000000000900:=by omega
  simp! only [-jL];refine iK (λ σ' H'=>∃ go:Int,σ'=[some (.ref a),some (.int gh),some (.ref p),some (.ref q),some (.int go)]/\H'=H5/\(-100000000000000900<=go/\go<=100000000000000900)) (λ nx' hn=>?_) ?_
  ·exists hn;clear kk hgo;ac_rfl;rw [aU];refine⟨hS5,hl,⟨by decide,by decide⟩,by decide,λ d3 _ _=>?_⟩
   by_cases hd:d3=1
   ·have hn':=hn () _ H5 ⟨go % 1000 - 500,rfl,rfl,by omega⟩;clear hn;ac_rfl
   ·have hn':=hn () _ H5 ⟨go,rfl,rfl,gob⟩;clear hn;ac_rfl
  clear hgo gob;rintro _ _ ⟨go,rfl,rfl,gob⟩;rename_i H5;simp only [qC];refine iK (λ σ' H'=>∃ go:Int,σ'=[some (.ref a),some (.int gh),some (.ref p),some (.ref q),some (.int go)]/\Ext H5 H'/\(-100000000000000900<=go/\go<=100000000000000900)) (λ nx' hn=>?_) ?_
  ·exists hn;clear kk;have a3:=kA.len;have b3:=kB.len;ac_rfl;rw [aU];refine⟨hS5,hl,⟨by decide,by decide⟩,by decide,λ d4 _ _=>?_⟩
   by_cases hd:d4=1
   ·ac_rfl;rw [dZ];refine⟨A,B,pA5,pB5,by omega,by omega,kA.one,kB.one,λ ks r6 H6 e6 t6 ko=>?_⟩;have hS6:=e6.2 K a _ hS5;have ht:=(kA.tms kB ko).1;obtain⟨w1,w2⟩:=kA.sum kB ko;exists w2;generalize ag ks (ao (A.map af) (B.map af))=zs at *;clear ko;ac_rfl;rw [A1];refine⟨rfl,hS6,hl,zs,t6,ht,w1,w2 (),λ g H7 e7 gb=>?_⟩;have hn':=hn () _ H7 ⟨g,rfl,e6.trans e7,by omega⟩;clear hn hS6;ac_rfl
   ·have hn':=hn () _ H5 ⟨go,rfl,Ext.refl _,gob⟩;clear hn;ac_rfl
  clear gob;rintro _ H6 ⟨go,rfl,e6,gob⟩;have pA6:=ay pA5 e6;have pB6:=ay pB5 e6;clear pA5 pB5 hS5;ac_rfl;intro r7 H7 _ e7 h7;exact kk () gh go A B p q r7 H7 (e05.trans (e6.trans e7)) h7 (ay pA6 e7) (ay pB6 e7) kA kB gob ghc
def D4(H:Hp)(f:V->Option PyData):V->Option PyData:=bp H (bp H (bp H (bp H f)))
theorem lE{H:Hp}{r:Addr}(f:V->Option PyData)(h:H r=some (.tup [.str "open"])):D4 H f (.ref r)=some (.tuple [.str "open"]):=by
 have so:PyData.strOk (Str.ofString "open")=true:=by decide +kernel
 show (H r).bind (oH (bp H (bp H (bp H f))))=_
 rw [h]
 show (aI [(if PyData.strOk (Str.ofString "open")=true then some (PyData.str "open") else none)]).map PyData.tuple=_
 rw [MI so];rfl
theorem rH{H:Hp}{a:Addr}{ys:List Int}(f:V->Option PyData)(h:H a=some (.tup (ys.map V.int))):bp H (bp H (bp H f)) (.ref a)=some (.tuple (ys.map PyData.int)):=by
 show (H a).bind (oH (bp H (bp H f)))=_
 rw [h]
 show (aI ((ys.map V.int).map (bp H (bp H f)))).map PyData.tuple=_
 rw [dv];rfl
theorem pN{H:Hp}{r a1 a2:Addr}{ys zs:List Int}(f:V->Option PyData)(h:H r=some (.tup [.str "shared",.ref a1,.ref a2]))(h1:H a1=some (.tup (ys.map V.int)))(h2:H a2=some (.tup (zs.map V.int))):D4 H f (.ref r)=some (.tuple [.str "shared",.tuple (ys.map PyData.int),.tuple (zs.map PyData.int)]):=by
 have so:PyData.strOk (Str.ofString "shared")=true:=by decide +kernel
 show (H r).bind (oH (bp H (bp H (bp H f))))=_
 rw [h]
 show (aI [(if PyData.strOk (Str.ofString "shared")=true then some (PyData.str "shared") else none),bp H (bp H (bp H f)) (.ref a1),bp H (bp H (bp H f)) (.ref a2)]).map PyData.tuple=_
 rw [MI so,rH f h1,rH f h2];rfl
theorem pO{H:Hp}{r a1:Addr}{pp:List (List V)}(f:V->Option PyData)(h:H r=some (.tup [.str "apart",.ref a1]))(h1:km H a1 pp)(hp:∀ s∈pp,mx s):D4 H f (.ref r)=some (.tuple [.str "apart",.list (pp.map λ s=>PyData.tuple (s.map yv))]):=by
 have so:PyData.strOk (Str.ofString "apart")=true:=by decide +kernel
 obtain⟨ys,h2,pl⟩:=h1
 have e:bp H (bp H (bp H f)) (.ref a1)=some (.list (pp.map λ s=>PyData.tuple (s.map yv))):=by
  show (H a1).bind (oH (bp H (bp H f)))=_
  rw [h2]
  show (aI (ys.map (bp H (bp H f)))).map PyData.list=_
  rw [pE pl hp];rfl
 show (H r).bind (oH (bp H (bp H (bp H f))))=_
 rw [h]
 show (aI [(if PyData.strOk (Str.ofString "apart")=true then some (PyData.str "apart") else none),bp H (bp H (bp H f)) (.ref a1)]).map PyData.tuple=_
 rw [MI so,e];rfl
theorem ShV.ext{H0 H H':Hp}{r:Addr}{n:Nat}{ks:List Int}{P:List (Int × Int)}{o:Out}(h:ShV H0 H r n ks P o)(e:Ext H H'):ShV H0 H' r n ks P o:=by
 match o,h with
 | none,h=>exact e.at h
 | some (some xs,pp),⟨a1,a2,h1,h2,h3⟩=>exact⟨a1,a2,e.at h1,e.at h2,e.at h3⟩
 | some (none,pp),⟨a1,h0,h1,h2⟩=>exact⟨a1,h0,e.at h1,h2.ext e⟩
theorem g9.uniq{A B:List (Int × Int)}{g m:Int}{k1 k2:List Int}{o1 o2:Out}(h1:g9 A B g m k1 o1)(h2:g9 A B g m k2 o2):k1=k2/\o1=o2:=by
 have e:=h1.kok.uniq h2.kok;subst e;exact⟨rfl,h1.out.symm.trans h2.out⟩
theorem lB{xs:List PyData}(h:PyData.eqvAll xs xs=true):PyData.eqv (.tuple xs) (.tuple xs)=true:=by rw [cT];exact h
theorem qS{A B:List (Int × Int)}{g m:Int}{ks:List Int}{o:Out}{H0 H1 H:Hp}{r r':Addr}{n:Nat}{P:List (Int × Int)}(sr:g9 A B g m ks o)(h1:ShV H0 H r n ks P o)(h2:ShV H1 H r' n ks P o):∃ d d',fJ H 6 (.ref r)=some d/\fJ H 6 (.ref r')=some d'/\PyData.eqv d d'=true:=by
 show ∃ d d',D4 H (fJ H 2) (.ref r)=some d/\D4 H (fJ H 2) (.ref r')=some d'/\_
 match o,sr,h1,h2 with
 | none,_,h1,h2=>exact⟨_,_,lE _ h1,lE _ h2,lB (by rw [aL,cj,fP,N9];rfl)⟩
 | some (some xs,pp),_,⟨a1,a2,h1,h2,h3⟩,⟨b1,b2,k1,k2,k3⟩=>
  exact⟨_,_,pN _ h1 h2 h3,pN _ k1 k2 k3,lB (by rw [aL,aL,aL,cj,fP,N9,cT,cT,fZ,fZ,MY rfl,MY rfl];rfl)⟩
 | some (none,pp),sr,⟨a1,_,h1,h2⟩,⟨b1,_,k1,k2⟩=>
  have pur:=(sr.ap pp rfl).1.pure;exact⟨_,_,pO _ h1 h2 pur,pO _ k1 k2 pur,lB (by rw [aL,aL,cj,fP,N9,rE,vJ pur];rfl)⟩
theorem mP{A B:List (Int × Int)}{g m:Int}{ks:List Int}{o:Out}(sr:g9 A B g m ks o)(hm:1<=m)(he:cz (ag ks (ao A B)) ((ag ks (ao A B)).map λ z=>z.2) g=true):o ≠ none:=by
 obtain⟨n,hn⟩:∃ n,m.toNat=n+1:=⟨m.toNat - 1,by omega⟩;have ho:=sr.out;rw [hn] at ho;rw [←ho]
 show (match oB (ag ks (ao A B)) ((ag ks (ao A B)).map λ z=>z.2) g with|some s=>mq _ _ n [] ([]++[s])|none=>_) ≠ none
 cases hs:oB (ag ks (ao A B)) ((ag ks (ao A B)).map λ z=>z.2) g with
 | none=>rw [lC hs] at he;cases he
 | some s=>
  show mq _ _ n [] _ ≠ none
  rw [pC];intro q;cases q
theorem vL{A B:List (Int × Int)}{g m:Int}{ks:List Int}{o:Out}{H0 H:Hp}{r:Addr}{n:Nat}{P:List (Int × Int)}(sr:g9 A B g m ks o)(h:ShV H0 H r n ks P o)(hn:o ≠ none):∃ d,(∀ f,D4 H f (.ref r)=some d)/\PyData.eqv d (.tuple [.str "open"])=false:=by
 have sq1:(("apart":Str) == "open")=false:=by decide +kernel
 have sq2:(("shared":Str) == "open")=false:=by decide +kernel
 match o,sr,h,hn with
 | none,_,_,hn=>exact absurd rfl hn
 | some (some xs,pp),_,⟨a1,a2,h1,h2,h3⟩,_=>exact⟨_,λ f=>pN f h1 h2 h3,by rw [cT,aL,fP,sq2];rfl⟩
 | some (none,pp),sr,⟨a1,_,h1,h2⟩,_=>exact⟨_,λ f=>pO f h1 h2 (sr.ap pp rfl).1.pure,by rw [cT,aL,fP,sq1];rfl⟩
theorem Gb{A B:List (Int × Int)}{g most:Int}{ks xs:List Int}{pp:List (List V)}(h:g9 A B g most ks (some (some xs,pp))):InA A ((plF ks (ao A B) xs).take A.length)/\InA B ((plF ks (ao A B) xs).drop A.length)/\iD A ((plF ks (ao A B) xs).take A.length)=g+iD B ((plF ks (ao A B) xs).drop A.length):=by
 obtain⟨x1,x2⟩:=h.sh xs pp rfl;obtain⟨i1,i2⟩:=ky x1;have e:=lD i1 i2;rw [List.take_append_drop,x2] at e;exact⟨i1,i2,by omega⟩
theorem qI{A B:List (Int × Int)}{g m:Int}{ks:List Int}{o:Out}{H0 H:Hp}{r:Addr}(hA:AxG A)(hB:AxG B)(hm0:1<=m)(hm:m<=100000)(sr:g9 (A.map af) (B.map af) g m ks o)(w:ShV H0 H r (A.map af).length ks (ao (A.map af) (B.map af)) o):LR H r A B m\/EY H r A B g\/E2 H r A B g m:=by
 match o,sr,w with
 | none,sr,w=>exact .inl ⟨w,λ l hl=>by rw [hl.uniq sr.kok];exact CY (hA.tms hB sr.kok).1 %[0|8] sr.out⟩
 | some (some xs,pp),sr,⟨a1,a2,w1,w2,w3⟩=>
  obtain⟨s1,s2,s3⟩:=Gb sr;rw [MK] at s1 s2 s3 w2 w3;have k1:=pJ s1;have k2:=pJ s2;rw [lA k1,lA k2] at s3;exact .inr (.inl ⟨_,_,a1,a2,w1,w2,w3,k1,k2,s3⟩)
 | some (none,pp),sr,⟨a1,_,w1,w2⟩=>
  obtain⟨h1,h2⟩:=sr.ap pp rfl;exact .inr (.inr ⟨pp,a1,w1,w2,h2,by omega,h1.pure,λ l hl=>by rw [hl.uniq sr.kok];exact h1⟩)
theorem EJ{zs:List Tm3}(ht:cK zs):1<=A7 zs:=by
 have:=oR (iu ht).bx;unfold A7;split
 ·split<;>omega
 ·omega
theorem KR{H:Hp}{x l y1 y2:Addr}{d1 d2:PyData}{Q:VK}(hx:H x=some (.tup [.str "open"]))(hl:H l=some (.lst [.ref y1,.ref y2]))(h1:∀ f,D4 H f (.ref y1)=some d1)(h2:∀ f,D4 H f (.ref y2)=some d2)(q1:PyData.eqv d1 (.tuple [.str "open"])=false)(q2:PyData.eqv d2 (.tuple [.str "open"])=false)(q:Q (.bl false) H):Le false (.ref x) (.ref l) H Q:=by
 refine⟨.tuple [.str "open"],[d1,d2],lE (fJ H 2) hx,?_,?_⟩
 ·show (H l).bind (oH (fJ H 5))=_
  rw [hl]
  show (aI [D4 H (fJ H 1) (.ref y1),D4 H (fJ H 1) (.ref y2)]).map PyData.list=_
  rw [h1,h2];rfl
 ·show Q (.bl ([d1,d2].any λ y=>PyData.eqv y (.tuple [.str "open"]))) H
  rw [any_cons,any_cons,q1,q2];exact q
theorem E1.ext{H H':Hp}{m:V}(h:E1 H m)(e:Ext H H'):E1 H' m:=by
 match m,h with
 | .int i,h=>exact h
 | .non,_=>trivial
 | .bl _,_=>trivial
 | .str _,_=>trivial
 | .ref p,⟨xs,h⟩=>exact⟨xs,h.imp (λ h=>e.at h) (λ h=>e.at h)⟩
theorem Ga{t:TS}{nx:St->Hp->Prop}{rt:VK}{bk ct:St->Hp->Prop}{σ:St}{H:Hp}(R:St->Hp->Prop)(h:∀ nx':St->Hp->Prop,(∀ σ' H',R σ' H'->nx' σ' H')->t ⟨nx',rt,bk,ct⟩ σ H)(k:∀ σ' H',R σ' H'->nx σ' H'):t ⟨nx,rt,bk,ct⟩ σ H:=h nx k
abbrev ER(K:PySem.W.Frag)(a:Addr)(H:Hp)(Q:VK)(E:XK):Prop:=∃ ns:List Int,SqL K H a (ns.map V.int)/\ns.length<=63/\∀ H',Q (.bl true) H'
def uy(K:W.Frag):Sp:=λ vs H Q E=>∃ (a:Addr),vs=[.ref a]/\(ER K a H Q E)
theorem Eh(K:W.Frag){vs:List V}{H:Hp}{Q:VK}{E:XK}(h:uy K vs H Q E):vs.length=1:=oF h λ _=>rfl
theorem GF(T:Tx K mg t):bj P w K mg base CX0 9 t.a_law t.d_law ["_law_script"] (uy K):=by
 refine T.F_law.ok eL (λ vs H Q E h=>Eh _ h) (λ cdv A' outer s H vs Q E hr h=>?_)
 ·obtain⟨a,rfl,ns,hS,hl,kk⟩:=h;have G__law_draw:=%[cy|47] a ns;have G__law_drawn:=%[lU|47] a ns;have G__law_placed:=%[jF|47];have G__law_terms:=%[b6|47];have G__law_bound:=%[gy|47];have G_shares:=%[wF|47];have G__law_right:=%[lR|47];have G__law_is_over:=%[jw|47];have G__law_refused:=%[ju|47];have G_View___init__:=%[eJ|47];have c1:=T.cl_View;have c2:=T.na_View_room;have c3:=T.na_View_first;refine⟨_,%[%[%[_law_drawn,%[%[0|0]|1]|3],(%[(4),rfl,%[%[1,eL|5],%[%[2,eL|5],%[%[3,eL|5],%[%[4,eL|5],(@aw _),∅|15],∅|15],∅|15],∅|15],∅,∅|20].mono λ _ _ _ _ h=>aX h),∅,∅,∅|39],%[%[%[_law_placed,%[%[2|0],%[%[3|0],%[%[4|0],%[%[_law_draw,%[%[0|0],%[%[0|2],%[%[0|2]|1]|1]|1]|3],%[%[_law_draw,%[%[0|0],%[%[0|2],%[%[0|2]|1]|1]|1]|3]|1]|1]|1]|1]|1]|3],(%[(2),rfl,%[%[5,eL|5],%[%[6,eL|5],(@aw _),∅|15],∅|15],∅,∅|20].mono λ _ _ _ _ h=>aX h),∅,∅,∅|39],%[%[7,eL,%[_law_bound,%[%[_law_terms,%[%[2|0],%[%[3|0]|1]|1]|3]|1]|3]|4],%[%[8,eL,%[aD,%[0|2],%[_law_draw,%[%[0|0],%[%[0|2],%[%[0|2]|1]|1]|1]|3]|10]|4],%[%[(PW.pt %[%[(bG hr.units),%[_law_draw,%[%[0|0],%[%[0|2],%[%[0|2]|1]|1]|1]|3],%[0|2],(ae _)|14],%[%[iF,%[7|0],%[0|2],(ae _)|14]|34]|32]),%[%[8,eL,%[7|0]|4]|11],(@ah _)|16],%[%[9,eL,%[shares,%[%[5|0],%[%[6|0],%[%[8|0]|1]|1]|1]|3]|4],%[%[%[%[%[_law_right,%[%[9|0],%[%[2|0],%[%[3|0],%[%[4|0],%[%[8|0]|1]|1]|1]|1]|1]|3],(by intros;rfl)|24]|25],%[%[(@cO _ _ _ _)|13]|11],(@ah _)|16],%[%[10,eL,%[shares,%[%[5|0],%[%[6|0],%[%[0|2]|1]|1]|1]|3]|4],%[%[%[%[%[_law_right,%[%[10|0],%[%[2|0],%[%[3|0],%[%[4|0],%[%[0|2]|1]|1]|1]|1]|1]|3],(by intros;rfl)|24]|25],%[%[(@cO _ _ _ _)|13]|11],(@ah _)|16],%[%[(PW.pt %[%[%[_law_is_over,%[%[2|0],%[%[3|0],%[%[4|0]|1]|1]|1]|3],(by intros;rfl)|24],%[%[(GB hr.units),%[%[(@aW _ _ _ _)|1]|17],%[%[%[10|0],%[%[9|0]|1]|1]|19],(by with_unfolding_all rfl)|14]|34]|32]),%[%[(@cO _ _ _ _)|13]|11],(@ah _)|16],%[%[(PW.pt %[%[iF,%[7|0],%[0|2],(ae _)|14],%[%[(bN hr.units),(@kD _ _ _ _ _ _ _ _ _ _ _ _ _ _ _ _ G_shares (hr.mono ⋯) ∅ T.m_shares T.F_shares.kp T.b_shares_2.choose_spec (.cons (show bF (V.int 1000) (Value.int 1000 T.b_shares_2.choose) from ⟨_,rfl⟩) .nil) oK %[%[5|0],%[%[6|0]|1]|1] ⋯ ∅ ∅),%[shares,%[%[5|0],%[%[6|0],%[%[0|2]|1]|1]|1]|3],(ae _)|14]|34]|32]),%[%[(@cO _ _ _ _)|13]|11],(@ah _)|16],%[%[M7,rfl,%[%[BK,%[%[%[0|2],%[%[aD,%[0|2],%[_law_draw,%[%[0|0],%[%[0|2],%[%[0|2]|1]|1]|1]|3]|10]|1]|1]|19],(@fO _),(@fN _ _ _ %[bO,%[0|2],%[m7,∅,T.z_int,nofun,%[%[(bG hr.units),%[1|0],%[0|2],(ae _)|33]|1],⋯,⋯,∅,∅|38]|10])|43]|23],%[11,eL|5],%[%[10,eL,%[shares,%[%[5|0],%[%[6|0],%[%[11|0]|1]|1]|1]|3]|4],%[%[%[%[%[_law_right,%[%[10|0],%[%[2|0],%[%[3|0],%[%[4|0],%[%[11|0]|1]|1]|1]|1]|1]|3],(by intros;rfl)|24]|25],%[%[(@cO _ _ _ _)|13]|11],(@ah _)|16]|11]|9],(by intros;rfl)|30],%[%[12,eL,%[%[%[0|2],%[(@BV _ _ _ _ _ _ oS %[0|2]),%[%[0|2],%[(@cR _ _ _),%[(@cO _ _ _ _),%[(@aW _ _ _ _),%[%[fD,%[0|2],%[0|2]|10],%[%[%[%[0|2]|1]|19],%[%[%[%[0|2]|1]|17],%[%[aB,%[0|2],%[fD,%[0|2],%[0|2]|10]|10]|1]|1]|1]|1]|1]|1]|1]|1]|1]|1]|19]|4],%[%[13,eL,%[aH,%[12|0],%[_law_draw,%[%[0|0],%[%[0|2],%[%[0|2]|1]|1]|1]|3],(λ _ _=>rfl)|12]|4],%[%[14,eL,%[T.mk_View,G_View___init__,(hr.mono ⋯),∅,T.m_View,T.b_View___init__,.nil,oK,%[%[aD,%[aD,%[%[6|0],rfl|29],%[0|2]|10],%[_law_draw,%[%[0|0],%[%[0|2],%[%[0|2]|1]|1]|1]|3]|10],%[%[%[6|0],rfl|29],%[%[dY,∅,T.z_list,nofun,%[%[3|0]|1],⋯,⋯,∅,∅|38]|1]|1]|1],⋯,∅,∅|46]|4],%[%[%[(bN hr.units),%[_law_refused,%[%[5|0],%[%[6|0],%[%[13|0]|1]|1]|1]|3],(@aW _ _ _ _),(ae _)|14],%[%[(@cO _ _ _ _)|13]|11],(@ah _)|16],%[%[(PW.pt %[%[(bN hr.units),%[_law_refused,%[%[5|0],%[%[14|0],%[%[13|0]|1]|1]|1]|3],(@aW _ _ _ _),(ae _)|14],%[%[(bN hr.units),%[_law_refused,%[%[14|0],%[%[5|0],%[%[8|0]|1]|1]|1]|3],(@aW _ _ _ _),(ae _)|14]|28]|22]),%[%[(@cO _ _ _ _)|13]|11],(@ah _)|16],%[%[%[(bN hr.units),%[shares,%[%[5|0],%[%[6|0],%[%[8|0]|1]|1]|1]|3],%[9|0],(ae _)|14],%[%[(@cO _ _ _ _)|13]|11],(@ah _)|16],%[%[10,eL,%[shares,%[%[6|0],%[%[5|0],%[%[8|0]|1]|1]|1]|3]|4],%[%[%[_law_right,%[%[10|0],%[%[3|0],%[%[2|0],%[%[aB,%[0|2],%[4|0]|10],%[%[8|0]|1]|1]|1]|1]|1]|3]|13]|11]|9]|9]|9]|9]|9]|9]|9]|9]|9]|9]|9]|9]|9]|9]|9]|9]|9]|9]|9],?_⟩;rw [show aE ["_law_script", "_law_great_here", "_law_one", "_law_other", "_law_goal", "_law_here", "_law_there", "_law_bound_here", "_law_most", "_law_found", "_law_told", "_law_wide", "_law_things", "_law_thing", "_law_wider"] [.ref a]=[some (.ref a),none,none,none,none,none,none,none,none,none,none,none,none,none,none] from rfl];clear G__law_draw G__law_drawn G__law_placed G__law_terms G__law_bound G_shares G__law_right G__law_is_over G__law_refused G_View___init__;exists kk;ac_rfl;rw [uc];refine⟨rfl,hS,hl,λ gh g A B p q r1 H1 e1 h1 pA pB kA kB gb ghc=>?_⟩;have hS1:=e1.2 K a _ hS;have a3:=kA.len;have b3:=kB.len;clear hS e1;ac_rfl;rw [aU];refine⟨hS1,hl,⟨by decide,by decide⟩,by decide,λ d3 d30 d31=>?_⟩;ac_rfl;rw [aU];refine⟨hS1,hl,⟨by decide,by decide⟩,by decide,λ d4 d40 d41=>?_⟩;ac_rfl;rw [qd];refine⟨A,B,pA,pB,kA,kB,⟨d30,d31⟩,⟨d40,d41⟩,by omega,λ room f x1 x2 r2 H2 e2 h2 v1 v2 vB hrb=>?_⟩;have hS2:=e2.2 K a _ hS1;have hSb:=λ (_:Unit)=>hS2;have pA2:=ay pA e2;have pB2:=ay pB e2;have hx:f+g - f=g:=by omega
  have hx':f - (f+g)=0 - g:=by omega
  exists hx;exists hx';have tmA:∀ ks,oE ks (ao (A.map af) (B.map af))->cK (ag ks (ao (A.map af) (B.map af))):=λ ks hk=>(kA.tms kB hk).1;have tmB:∀ ks,oE ks (ao (B.map af) (A.map af))->cK (ag ks (ao (B.map af) (A.map af))):=λ ks hk=>(kB.tms kA hk).1;exists tmA;exists tmB;clear hS1 h1 pA pB e2 d30 d31 d40 d41 gb;ac_rfl;rw [dZ];refine⟨A,B,pA2,pB2,by omega,by omega,kA.one,kB.one,λ ks r3 H3 e3 t3 ko=>?_⟩;have ht:=tmA () ks ko;have b1:=EJ ht;generalize ag ks (ao (A.map af) (B.map af))=zs at *;clear ko h2;ac_rfl;rw [ni];refine⟨zs,t3,ht,λ H4 e4=>?_⟩;generalize A7 zs=bo at *;have e24:=e3.trans e4;have hS4:=e24.2 K a _ hS2;clear t3 ht hS2 e3 e4;ac_rfl;rw [aU];refine⟨hS4,hl,⟨by decide,by decide⟩,by decide,λ d5 d50 d51=>?_⟩;simp! only [-jL];refine iK (λ σ' H'=>∃ mo:Int,σ'=[some (.ref a),some (.int gh),some (.ref p),some (.ref q),some (.int g),some (.ref x1),some (.ref x2),some (.int bo),some (.int mo),none,none,none,none,none,none]/\H'=H4/\1<=mo/\mo<=1200) (λ nx' hn=>?_) ?_
  ·exists hn;clear kk;ac_rfl;rw [aU];refine⟨hS4,hl,⟨by decide,by decide⟩,by decide,λ d6 _ _=>?_⟩
   by_cases h0:d6=0
   ·by_cases hb:bo<=1200
    ·have hn':=hn () _ H4 ⟨bo,rfl,rfl,b1,hb⟩;clear hn;ac_rfl
    ·have hn':=hn () _ H4 ⟨1+d5,rfl,rfl,by omega,by omega⟩;clear hn;ac_rfl
   ·have hn':=hn () _ H4 ⟨1+d5,rfl,rfl,by omega,by omega⟩;clear hn;ac_rfl
  clear d50 d51;rintro _ _ ⟨mo,rfl,rfl,m1,m2⟩;rename_i H4;ac_rfl;rw [ck];refine⟨room,f,f+g,_,_,v1.ext e24,v2.ext e24,kA.axes,kB.axes,m1,by omega,tmA (),λ ks1 o1 r5 H5 e5 sr1 w1=>?_⟩;rw [hx ()] at sr1;have an1:=qI kA kB m1 %[0|8] sr1 w1;have e25:=e24.trans e5;exists sr1;exists w1;exists an1;clear e24 e5 hS4;ac_rfl;rw [fB];refine⟨A,B,ay pA2 e25,ay pB2 e25,kA,kB,an1 (),λ H6 e6=>?_⟩;have e26:=e25.trans e6;have w16:=λ (_:Unit)=>(w1 ()).ext e6;clear an1 w1 e25 e6;ac_rfl;rw [ck];refine⟨room,f,f+g,_,_,v1.ext e26,v2.ext e26,kA.axes,kB.axes,by decide,by decide,tmA (),λ ks2 o2 r7 H7 e7 sr2 w2=>?_⟩;rw [hx ()] at sr2;have an2:=qI kA kB ⋯ ⋯ sr2 w2;have e27:=e26.trans e7;have w17:=λ (_:Unit)=>(w16 ()).ext e7;exists sr2;exists w2;exists an2;clear w16 e26 e7;ac_rfl;rw [fB];refine⟨A,B,ay pA2 e27,ay pB2 e27,kA,kB,an2 (),λ H8 e8=>?_⟩;have e28:=e27.trans e8;have w18:=λ (_:Unit)=>(w17 ()).ext e8;have w28:=λ (_:Unit)=>(w2 ()).ext e8;clear an2 w17 w2 e27 e8;simp! only [-jL];refine iK (λ σ' H'=>σ'=[some (.ref a),some (.int gh),some (.ref p),some (.ref q),some (.int g),some (.ref x1),some (.ref x2),some (.int bo),some (.int mo),some (.ref r5),some (.ref r7),none,none,none,none]/\Ext H8 H') (λ nx' hn=>?_) ?_
  ·exists hn;clear kk;ac_rfl;rw [x9];refine⟨A,B,ay pA2 e28,ay pB2 e28,kA,kB,λ ks3 H9 e9 ko3=>?_⟩
   cases he:cz (ag ks3 (ao (A.map af) (B.map af))) ((ag ks3 (ao (A.map af) (B.map af))).map λ z=>z.2) g with
   | false=>
    have hn':=hn () _ H9 ⟨rfl,e9⟩;clear hn;ac_rfl
   | true=>
    have n1:=mP (sr1 ()) m1 (by rw [(sr1 ()).kok.uniq ko3];exact he);have n2:=mP (sr2 ()) ⋯ (by rw [(sr2 ()).kok.uniq ko3];exact he);exists n1;exists n2;clear he ko3;ac_rfl;intro t10 H10 _ e10 h10;ac_rfl;intro l11 H11 _ e11 h11;have e811:=e9.trans (e10.trans e11);obtain⟨d1,dd1,q1⟩:=vL (sr1 ()) ((w18 ()).ext e811) (n1 ());obtain⟨d2,dd2,q2⟩:=vL (sr2 ()) ((w28 ()).ext e811) (n2 ());have hn':=hn () _ H11 ⟨rfl,e811⟩;have h10':=e11.at h10;clear hn h10;refine KR h10' h11 dd2 dd1 q2 q1 ?_;clear dd1 dd2 q1 q2;ac_rfl
  rintro _ H9 ⟨rfl,e9⟩;have e29:=e28.trans e9;have w19:=λ (_:Unit)=>(w18 ()).ext e9;clear w18 w28 e28 e9 sr2;simp only [qC];refine iK (λ σ' H'=>σ'=[some (.ref a),some (.int gh),some (.ref p),some (.ref q),some (.int g),some (.ref x1),some (.ref x2),some (.int bo),some (.int mo),some (.ref r5),some (.ref r7),none,none,none,none]/\Ext H9 H') (λ nx' hn=>?_) ?_
  ·exists hn;clear kk
   by_cases hb:bo<=1000
   ·ac_rfl;rw [ck];refine⟨room,f,f+g,_,_,v1.ext e29,v2.ext e29,kA.axes,kB.axes,by decide,by decide,tmA (),λ ks3 o3 r10 H10 e10 sr3 w3=>?_⟩;exists sr3;exists w3;have e210:=e29.trans e10;ac_rfl;rw [ck];refine⟨room,f,f+g,_,_,v1.ext e210,v2.ext e210,kA.axes,kB.axes,by decide,by decide,tmA (),λ ks4 o4 r11 H11 e11 sr4 w4=>?_⟩;obtain⟨q1,q2⟩:=sr4.uniq (sr3 ());subst q1 q2;obtain⟨d,d',dd1,dd2,q3⟩:=qS sr4 ((w3 ()).ext e11) w4;have hn':=hn () _ H11 ⟨rfl,e10.trans e11⟩;clear hn sr3 sr4 w3 w4;simp! only [-ve]
   ·have hn':=hn () _ H9 ⟨rfl,Ext.refl _⟩;clear hn;ac_rfl
  rintro _ H12 ⟨rfl,e12⟩;have e212:=e29.trans e12;have w112:=λ (_:Unit)=>(w19 ()).ext e12;clear w19 e29 e12;have hS12:=e212.2 K a _ (hSb ());simp only [qC];refine Ga (λ σ' H'=>∃ v10 v11:Option V,σ'=[some (.ref a),some (.int gh),some (.ref p),some (.ref q),some (.int g),some (.ref x1),some (.ref x2),some (.int bo),some (.int mo),some (.ref r5),v10,v11,none,none,none]/\Ext H12 H') (λ nx' hn=>?_) ?_
  ·exists hn;clear kk;ac_rfl;rw [aU];refine⟨hS12,hl,⟨by decide,by decide⟩,by decide,λ d7 d70 d71=>?_⟩;ac_rfl;intro l13 H13 _ e13 h13;have hb7:1<=1000+d7/\1000+d7<=100000:=by omega
   rcases ghc with rfl|rfl
   ·have hcut:kg [V.int 100000,.int (1000+d7)] none (some 2)=[V.int 100000,.int (1000+d7)]:=by rw [lG _ _ ⋯];rfl
    ac_rfl;intro l14 H14 _ e14 h14;have e1214:=e13.trans e14;clear h13 hcut;ac_rfl;refine dB (xs:=[V.int 100000,.int (1000+d7)]) (λ i σ H'=>∃ v10 v11:Option V,σ=[some (.ref a),some (.int 0),some (.ref p),some (.ref q),some (.int g),some (.ref x1),some (.ref x2),some (.int bo),some (.int mo),some (.ref r5),v10,v11,none,none,none]/\Ext H12 H'/\Ext H14 H') ⟨_,_,rfl,e1214,Ext.refl _⟩ (λ i σ H' _ ⟨_,_,_,_,e⟩=>e.at h14) ?_ ?_
    ·rintro i y _ H16 hi ⟨v10,v11,rfl,e16,e16'⟩
     obtain⟨wi,rfl,wi0,wi1⟩:∃ wi:Int,y=.int wi/\1<=wi/\wi<=100000:=by
      have:=N3 hi;simp only [MU,Na,Nt] at this
      rcases this with rfl|rfl
      ·exact⟨_,rfl,by decide,by decide⟩
      ·exact⟨_,rfl,hb7.1,hb7.2⟩
     have e216:=e212.trans e16;clear hi hn h14;simp! only [↓aN];rw [ck];refine⟨room,f,f+g,_,_,v1.ext e216,v2.ext e216,kA.axes,kB.axes,wi0,wi1,tmA (),λ ks5 o5 r17 H17 e17 sr5 w5=>?_⟩;rw [hx ()] at sr5;have an5:=qI kA kB wi0 wi1 sr5 w5;have e217:=e216.trans e17;exists an5;clear sr5 w5;ac_rfl;rw [fB];refine⟨A,B,ay pA2 e217,ay pB2 e217,kA,kB,an5 (),λ H18 e18=>?_⟩;have e1218:=e16.trans (e17.trans e18);have e1418:=e16'.trans (e17.trans e18);clear an5;ac_rfl;exact⟨_,_,rfl,e1218,e1418⟩
    ·rintro _ H16 ⟨v10,v11,rfl,e16,_⟩;exact hn () _ H16 ⟨v10,v11,rfl,e16⟩
   ·have hcut:kg [V.int 100000,.int (1000+d7)] none (some 0)=[]:=by rw [lG _ _ ⋯];rfl
    ac_rfl;intro l14 H14 _ e14 h14;have e1214:=e13.trans e14;clear h13 hcut;ac_rfl;refine dB (xs:=[]) (λ i σ H'=>∃ v10 v11:Option V,σ=[some (.ref a),some (.int 1),some (.ref p),some (.ref q),some (.int g),some (.ref x1),some (.ref x2),some (.int bo),some (.int mo),some (.ref r5),v10,v11,none,none,none]/\Ext H12 H'/\Ext H14 H') ⟨_,_,rfl,e1214,Ext.refl _⟩ (λ i σ H' _ ⟨_,_,_,_,e⟩=>e.at h14) ?_ ?_
    ·rintro i y _ H16 hi ⟨v10,v11,rfl,e16,e16'⟩;simp at hi
    ·rintro _ H16 ⟨v10,v11,rfl,e16,_⟩;exact hn () _ H16 ⟨v10,v11,rfl,e16⟩
  rintro _ H15 ⟨v10,v11,rfl,e15⟩;have e215:=e212.trans e15;have w115:=λ (_:Unit)=>(w112 ()).ext e15;have hS15:=e215.2 K a _ (hSb ());have hS2b:=hSb ();clear w112 e212 e15 hS12 hSb;ac_rfl;intro la Ha _ ea ha;ac_rfl;intro ta Hb _ eb hb;ac_rfl;intro li Hc _ ec hc;have e2c:=e215.trans (ea.trans (eb.trans ec));have hSc:=e2c.2 K a _ hS2b;have ha':=(eb.trans ec).at ha;have hb':=ec.at hb;have w1c:=λ (_:Unit)=>(w115 ()).ext (ea.trans (eb.trans ec));clear ha hb ea eb ec w115 e215 hS15;ac_rfl;rw [aU];refine⟨hSc,hl,⟨by decide,by decide⟩,by decide,λ d8 d80 d81=>?_⟩;ac_rfl;refine cv (λ v=>E1 Hc v) d80 (by simpa using d81) (λ v hv=>?_) λ th hth=>?_
  ·simp only [MU,Na,Nt] at hv
   rcases hv with rfl|rfl|rfl|rfl|rfl|rfl|rfl|rfl|rfl|rfl
   ·exact .inl ⋯
   ·exact .inl ⋯
   ·exact .inr ⋯
   ·exact trivial
   ·exact trivial
   ·exact trivial
   ·exact .inr ⋯
   ·exact⟨_,.inl ha'⟩
   ·exact⟨_,.inr hb'⟩
   ·exact .inl ⋯
  exists hth;obtain⟨dx2,D2,hu2,_⟩:=(v2.ext e2c).ob;have f1:=dS room (f+g) D2;have f2:=cX room (f+g) D2;obtain⟨tb,htb,alB⟩:=ay pB2 e2c;exists alB;clear hc ha' hb' d80 d81;ac_rfl;rw [aU];refine⟨hSc,hl,⟨by decide,by decide⟩,by decide,λ d9 d90 d91=>?_⟩;ac_rfl;intro lo Hd _ ed hd;have alBd:=λ (_:Unit)=>(alB ()).imp λ _ _ t=>axP.ext t ed;clear alB htb hu2 hSc;ac_rfl;intro x3 dx3 G1 hx3 hdx3 hne3 g1 k1 k1';rw [jd];refine⟨dx3,B,k1,dO.ext ⟨tb,hd,uG (alBd ())⟩ g1,⟨vB.ax,by have:=vB.r1;omega,by omega,vB.lo,by have:=vB.hi;omega⟩,λ G2 D4 g2' hD4 hx4 tt4=>?_⟩;have eg:=g2' Hd g1 hx3;have v3:aJ t.a_View G2 x3 (room+1+d9) (f+g) (B.map af):=⟨dx3,D4,hx4,tt4⟩;have ecg:=ed.trans eg;have e2g:=e2c.trans ecg;have hthg:=λ (_:Unit)=>(hth ()).ext ecg;have w1g:=λ (_:Unit)=>(w1c ()).ext ecg;clear alBd hd k1 k1' hx3 hdx3 hne3 g1 g2' hD4 hx4 tt4 eg ed ecg hth w1c e2c;ac_rfl;rw [lK];refine⟨room,room,f,f+g,_,_,v1.ext e2g,v2.ext e2g,kA.axes,kB.axes,λ _=>hthg (),λ G3 e3=>?_⟩;rw [MI rfl];have hth3:=λ (_:Unit)=>(hthg ()).ext e3;have e23:=e2g.trans e3;have v33:=v3.ext e3;have w13:=λ (_:Unit)=>(w1g ()).ext e3;clear hthg w1g e2g v3 e3;ac_rfl;rw [lK];refine⟨room,room+1+d9,f,f+g,_,_,v1.ext e23,v33,kA.axes,kB.axes,(λ e=>by omega),λ G4 e4=>?_⟩;rw [MH %[0|8]];have e24:=e23.trans e4;have v34:=v33.ext e4;have w14:=λ (_:Unit)=>(w13 ()).ext e4;clear hth3 w13 e23 v33 e4;ac_rfl;rw [lK];refine⟨room+1+d9,room,f+g,f,_,_,v34,v1.ext e24,kB.axes,kA.axes,(λ e=>by omega),λ G5 e5=>?_⟩;rw [MH %[0|8]];have e25:=e24.trans e5;have w15:=λ (_:Unit)=>(w14 ()).ext e5;clear w14 e24 v34 e5;ac_rfl;rw [ck];refine⟨room,f,f+g,_,_,v1.ext e25,v2.ext e25,kA.axes,kB.axes,m1,by omega,tmA (),λ ks6 o6 r26 H26 e26 sr6 w6=>?_⟩;rw [hx ()] at sr6;obtain⟨q1,q2⟩:=sr6.uniq (sr1 ());subst q1 q2;obtain⟨dd,dd',hd1,hd2,hd3⟩:=qS sr6 w6 ((w15 ()).ext e26);have e226:=e25.trans e26;clear sr6 w6 w15 sr1;simp! only [-ve];clear hd1 hd2 hd3;rw [ck];refine⟨room,f+g,f,_,_,v2.ext e226,v1.ext e226,kB.axes,kA.axes,m1,by omega,tmB (),λ ks7 o7 r27 H27 e27 sr7 w7=>?_⟩;rw [hx' ()] at sr7;have an7:=qI kB kA m1 %[0|8] sr7 w7;have e227:=e226.trans e27;exists an7;clear sr7 w7;ac_rfl;rw [fB];exact⟨B,A,ay pB2 e227,ay pA2 e227,kB,kA,an7 (),λ H28 _=>kk () H28⟩
end
theorem LY{l:W.OpenLaw}{w:World}{K:W.Frag}{h:Heap}{mg:Str->Option Value}{fa:Addr}(X:K.In h)(G:h.Ns mainGlobals mg)(hfa:mg "law"=some (.ref fa))
  {C0:Addr} (y0:W.nsIn K mainGlobals "PaceError"=some (some (.ref C0)))
  {C1:Addr} (y1:W.nsIn K mainGlobals "NoPlace"=some (some (.ref C1)))
  {C2:Addr} (y2:W.nsIn K mainGlobals "NoView"=some (some (.ref C2)))
  {C3:Addr} (y3:W.nsIn K mainGlobals "NoCount"=some (some (.ref C3)))
  {C4:Addr} (y4:W.nsIn K mainGlobals "NoPair"=some (some (.ref C4)))
  {C5:Addr} (y5:W.nsIn K mainGlobals "NoMost"=some (some (.ref C5)))
  {C6:Addr} (y6:W.nsIn K mainGlobals "View"=some (some (.ref C6)))
  (o_NoPair:W.excIn K C4 [.type "ValueError",.type "Exception",.type "BaseException",.type "object"] "ValueError.__new__"=true)
  (o_NoMost:W.excIn K C5 [.type "ValueError",.type "Exception",.type "BaseException",.type "object"] "ValueError.__new__"=true)
  (x_NoPair_PaceError:W.exmOne K (.ref C4) (.ref C0)=some true)
  (x_NoMost_PaceError:W.exmOne K (.ref C5) (.ref C0)=some true)
  (ocs:W.specialIn K (.builtin "object.__class__") "__get__"=some (some (.builtin "getset_descriptor.__get__")))
  (oct:W.takesIn K (.builtin "object.__class__")=some true)
  (ga_NoPair:W.findIn K (.ref C4) "__getattribute__"=some (some (.builtin "BaseException.__getattribute__")))
  (gn_NoPair:W.findIn K (.ref C4) "__getattr__"=some none)
  (mb_NoPair:W.mroIn K C4 (.type "BaseException")=some true)
  (mo_NoPair:W.mroIn K C4 (.type "object")=some true)
  (fc_NoPair:W.findIn K (.ref C4) "__class__"=some (some (.builtin "object.__class__")))
  (hd_NoPair:W.hasDictIn K C4=true)
  (ga_NoMost:W.findIn K (.ref C5) "__getattribute__"=some (some (.builtin "BaseException.__getattribute__")))
  (gn_NoMost:W.findIn K (.ref C5) "__getattr__"=some none)
  (mb_NoMost:W.mroIn K C5 (.type "BaseException")=some true)
  (mo_NoMost:W.mroIn K C5 (.type "object")=some true)
  (fc_NoMost:W.findIn K (.ref C5) "__class__"=some (some (.builtin "object.__class__")))
  (hd_NoMost:W.hasDictIn K C5=true)
  (kc_NoPair_NoCount:W.hasDictIn K C3=true)
  (kt_NoPair_NoCount:W.typeIn K (.ref C3)=some (.type "type"))
  (ks_NoPair_NoCount:W.subIn K (.ref C4) (.ref C3)=some false)
  (kn_NoPair_NoCount:(C4 == C3)=false)
  (kc_NoPair_NoPair:W.hasDictIn K C4=true)
  (kt_NoPair_NoPair:W.typeIn K (.ref C4)=some (.type "type"))
  (ks_NoPair_NoPair:W.subIn K (.ref C4) (.ref C4)=some true)
  (kc_NoPair_NoMost:W.hasDictIn K C5=true)
  (kt_NoPair_NoMost:W.typeIn K (.ref C5)=some (.type "type"))
  (ks_NoPair_NoMost:W.subIn K (.ref C4) (.ref C5)=some false)
  (kn_NoPair_NoMost:(C4 == C5)=false)
  (ks_NoPair_ValueError:W.subIn K (.ref C4) (.type "ValueError")=some true)
  (kc_NoMost_NoCount:W.hasDictIn K C3=true)
  (kt_NoMost_NoCount:W.typeIn K (.ref C3)=some (.type "type"))
  (ks_NoMost_NoCount:W.subIn K (.ref C5) (.ref C3)=some false)
  (kn_NoMost_NoCount:(C5 == C3)=false)
  (kc_NoMost_NoPair:W.hasDictIn K C4=true)
  (kt_NoMost_NoPair:W.typeIn K (.ref C4)=some (.type "type"))
  (ks_NoMost_NoPair:W.subIn K (.ref C5) (.ref C4)=some false)
  (kn_NoMost_NoPair:(C5 == C4)=false)
  (kc_NoMost_NoMost:W.hasDictIn K C5=true)
  (kt_NoMost_NoMost:W.typeIn K (.ref C5)=some (.type "type"))
  (ks_NoMost_NoMost:W.subIn K (.ref C5) (.ref C5)=some true)
  (ks_NoMost_ValueError:W.subIn K (.ref C5) (.type "ValueError")=some true)
  {f0:Addr} {d0:FuncData} (a0:W.nsIn K mainGlobals "is_whole"=some (some (.ref f0))) (F0:Fun K "is_whole" "is_whole" gK f0 d0)
  {f1:Addr} {d1:FuncData} (a1:W.nsIn K mainGlobals "divisor"=some (some (.ref f1))) (F1:Fun K "divisor" "divisor" iZ f1 d1)
  {f2:Addr} {d2:FuncData} (a2:W.nsIn K mainGlobals "divisor_of"=some (some (.ref f2))) (F2:Fun K "divisor_of" "divisor_of" eS f2 d2)
  {f3:Addr} {d3:FuncData} (a3:W.nsIn K mainGlobals "least_sum"=some (some (.ref f3))) (F3:Fun K "least_sum" "least_sum" et f3 d3)
  {f4:Addr} {d4:FuncData} (a4:W.nsIn K mainGlobals "greatest_sum"=some (some (.ref f4))) (F4:Fun K "greatest_sum" "greatest_sum" cp f4 d4)
  {f5:Addr} {d5:FuncData} (a5:W.nsIn K mainGlobals "rest_of"=some (some (.ref f5))) (F5:Fun K "rest_of" "rest_of" gn f5 d5)
  {f6:Addr} {d6:FuncData} (a6:W.nsIn K mainGlobals "end_of"=some (some (.ref f6))) (F6:Fun K "end_of" "end_of" k8 f6 d6)
  {f7:Addr} {d7:FuncData} (a7:W.nsIn K mainGlobals "is_number_below"=some (some (.ref f7))) (F7:Fun K "is_number_below" "is_number_below" ef f7 d7)
  {f8:Addr} {d8:FuncData} (a8:W.nsIn K mainGlobals "is_place"=some (some (.ref f8))) (F8:Fun K "is_place" "is_place" jO f8 d8)
  {f9:Addr} {d9:FuncData} (a9:W.nsIn K mainGlobals "is_within"=some (some (.ref f9))) (F9:Fun K "is_within" "is_within" fS f9 d9)
  {f10:Addr} {d10:FuncData} (a10:W.nsIn K mainGlobals "is_size"=some (some (.ref f10))) (F10:Fun K "is_size" "is_size" iX f10 d10)
  {f11:Addr} {d11:FuncData} (a11:W.nsIn K mainGlobals "is_axis"=some (some (.ref f11))) (F11:Fun K "is_axis" "is_axis" iY f11 d11)
  {f12:Addr} {d12:FuncData} (a12:W.nsIn K mainGlobals "are_axes"=some (some (.ref f12))) (F12:Fun K "are_axes" "are_axes" fm f12 d12)
  {f13:Addr} {d13:FuncData} (a13:W.nsIn K mainGlobals "kept_axis"=some (some (.ref f13))) (F13:Fun K "kept_axis" "kept_axis" fR f13 d13)
  {f14:Addr} {d14:FuncData} (F14:Fun K "__init__" "View.__init__" b9 f14 d14)
  {f15:Addr} {d15:FuncData} (F15:Fun K "sizes" "View.sizes" gW f15 d15)
  {f16:Addr} {d16:FuncData} (F16:Fun K "paces" "View.paces" gX f16 d16)
  {f17:Addr} {d17:FuncData} (F17:Fun K "cell" "View.cell" jh f17 d17)
  {f18:Addr} {d18:FuncData} (F18:Fun K "least" "View.least" dn f18 d18)
  {f19:Addr} {d19:FuncData} (F19:Fun K "greatest" "View.greatest" b8 f19 d19)
  {f20:Addr} {d20:FuncData} (a20:W.nsIn K mainGlobals "refuse_rooms"=some (some (.ref f20))) (F20:Fun K "refuse_rooms" "refuse_rooms" dD f20 d20)
  {f21:Addr} {d21:FuncData} (a21:W.nsIn K mainGlobals "pulls"=some (some (.ref f21))) (F21:Fun K "pulls" "pulls" iP f21 d21)
  {f22:Addr} {d22:FuncData} (a22:W.nsIn K mainGlobals "gathered"=some (some (.ref f22))) (F22:Fun K "gathered" "gathered" dW f22 d22)
  {f23:Addr} {d23:FuncData} (a23:W.nsIn K mainGlobals "first_case"=some (some (.ref f23))) (F23:Fun K "first_case" "first_case" dj f23 d23)
  {f24:Addr} {d24:FuncData} (a24:W.nsIn K mainGlobals "parted"=some (some (.ref f24))) (F24:Fun K "parted" "parted" k7 f24 d24)
  {f25:Addr} {d25:FuncData} (a25:W.nsIn K mainGlobals "numbers_at_once"=some (some (.ref f25))) (F25:Fun K "numbers_at_once" "numbers_at_once" bh f25 d25)
  {f26:Addr} {d26:FuncData} (a26:W.nsIn K mainGlobals "narrowed"=some (some (.ref f26))) (F26:Fun K "narrowed" "narrowed" gJ f26 d26)
  {f27:Addr} {d27:FuncData} (a27:W.nsIn K mainGlobals "parting"=some (some (.ref f27))) (F27:Fun K "parting" "parting" iW f27 d27)
  {f28:Addr} {d28:FuncData} (a28:W.nsIn K mainGlobals "places_by_numbers"=some (some (.ref f28))) (F28:Fun K "places_by_numbers" "places_by_numbers" bL f28 d28)
  {D29:Addr} {qc29:Value} {qd29:Option Addr} {qn29:Nat} {qs29:Array (Option Value)} {dk29:Tok}
  {f29:Addr} {od29 an29:Option Addr} {sl29:Array (Option Value)} {oc29 kV29 dc29 pm29 cd29 ct29:Value}
  (a29:W.nsIn K mainGlobals "shares"=some (some (.ref f29))) (l29:K.lookup f29=some ⟨oc29,od29,.func (W.fnOf "shares" "shares" (dC fh) (cD fh) (aa fh) (.ref D29) kV29 dc29 pm29 an29 cd29 ct29),sl29⟩)
  (q29:K.lookup D29=some ⟨qc29,qd29,.seq #[Value.int 1000 dk29] qn29,qs29⟩)
  (c29:W.codeIn K cd29 "shares"=true) (k29:W.keepIn K (.ref f29)=true)
  {f30:Addr} {d30:FuncData} (a30:W.nsIn K mainGlobals "_law_draw"=some (some (.ref f30))) (F30:Fun K "_law_draw" "_law_draw" fU f30 d30)
  {f31:Addr} {d31:FuncData} (a31:W.nsIn K mainGlobals "_law_whole"=some (some (.ref f31))) (F31:Fun K "_law_whole" "_law_whole" eT f31 d31)
  {f32:Addr} {d32:FuncData} (a32:W.nsIn K mainGlobals "_law_axes"=some (some (.ref f32))) (F32:Fun K "_law_axes" "_law_axes" fV f32 d32)
  {f33:Addr} {d33:FuncData} (a33:W.nsIn K mainGlobals "_law_great"=some (some (.ref f33))) (F33:Fun K "_law_great" "_law_great" eV f33 d33)
  {f34:Addr} {d34:FuncData} (a34:W.nsIn K mainGlobals "_law_placed"=some (some (.ref f34))) (F34:Fun K "_law_placed" "_law_placed" b5 f34 d34)
  {f35:Addr} {d35:FuncData} (a35:W.nsIn K mainGlobals "_law_terms"=some (some (.ref f35))) (F35:Fun K "_law_terms" "_law_terms" dk f35 d35)
  {f36:Addr} {d36:FuncData} (a36:W.nsIn K mainGlobals "_law_product"=some (some (.ref f36))) (F36:Fun K "_law_product" "_law_product" dF f36 d36)
  {f37:Addr} {d37:FuncData} (a37:W.nsIn K mainGlobals "_law_falls"=some (some (.ref f37))) (F37:Fun K "_law_falls" "_law_falls" eW f37 d37)
  {f38:Addr} {d38:FuncData} (a38:W.nsIn K mainGlobals "_law_is_place"=some (some (.ref f38))) (F38:Fun K "_law_is_place" "_law_is_place" da f38 d38)
  {f39:Addr} {d39:FuncData} (a39:W.nsIn K mainGlobals "_law_cell"=some (some (.ref f39))) (F39:Fun K "_law_cell" "_law_cell" eA f39 d39)
  {f40:Addr} {d40:FuncData} (a40:W.nsIn K mainGlobals "_law_met"=some (some (.ref f40))) (F40:Fun K "_law_met" "_law_met" gL f40 d40)
  {f41:Addr} {d41:FuncData} (a41:W.nsIn K mainGlobals "_law_sums"=some (some (.ref f41))) (F41:Fun K "_law_sums" "_law_sums" cY f41 d41)
  {f42:Addr} {d42:FuncData} (a42:W.nsIn K mainGlobals "_law_divisor"=some (some (.ref f42))) (F42:Fun K "_law_divisor" "_law_divisor" dG f42 d42)
  {f43:Addr} {d43:FuncData} (a43:W.nsIn K mainGlobals "_law_ended"=some (some (.ref f43))) (F43:Fun K "_law_ended" "_law_ended" dm f43 d43)
  {f44:Addr} {d44:FuncData} (a44:W.nsIn K mainGlobals "_law_rest"=some (some (.ref f44))) (F44:Fun K "_law_rest" "_law_rest" fT f44 d44)
  {f45:Addr} {d45:FuncData} (a45:W.nsIn K mainGlobals "_law_behind"=some (some (.ref f45))) (F45:Fun K "_law_behind" "_law_behind" eD f45 d45)
  {f46:Addr} {d46:FuncData} (a46:W.nsIn K mainGlobals "_law_left"=some (some (.ref f46))) (F46:Fun K "_law_left" "_law_left" eu f46 d46)
  {f47:Addr} {d47:FuncData} (a47:W.nsIn K mainGlobals "_law_apart"=some (some (.ref f47))) (F47:Fun K "_law_apart" "_law_apart" eZ f47 d47)
  {f48:Addr} {d48:FuncData} (a48:W.nsIn K mainGlobals "_law_answer"=some (some (.ref f48))) (F48:Fun K "_law_answer" "_law_answer" eE f48 d48)
  {f49:Addr} {d49:FuncData} (a49:W.nsIn K mainGlobals "_law_bound"=some (some (.ref f49))) (F49:Fun K "_law_bound" "_law_bound" eY f49 d49)
  {f50:Addr} {d50:FuncData} (a50:W.nsIn K mainGlobals "_law_right"=some (some (.ref f50))) (F50:Fun K "_law_right" "_law_right" eU f50 d50)
  {f51:Addr} {d51:FuncData} (a51:W.nsIn K mainGlobals "_law_refused"=some (some (.ref f51))) (F51:Fun K "_law_refused" "_law_refused" dE f51 d51)
  {f52:Addr} {d52:FuncData} (a52:W.nsIn K mainGlobals "_law_far"=some (some (.ref f52))) (F52:Fun K "_law_far" "_law_far" fq f52 d52)
  {f53:Addr} {d53:FuncData} (a53:W.nsIn K mainGlobals "_law_is_over"=some (some (.ref f53))) (F53:Fun K "_law_is_over" "_law_is_over" cq f53 d53)
  {f54:Addr} {d54:FuncData} (a54:W.nsIn K mainGlobals "_law_drawn"=some (some (.ref f54))) (F54:Fun K "_law_drawn" "_law_drawn" eX f54 d54)
  {f55:Addr} {od55 an55:Option Addr} {sl55:Array (Option Value)} {oc55 kV55 dc55 pm55 cd55 ct55:Value}
  (a55:W.nsIn K mainGlobals "law"=some (some (.ref f55))) (l55:K.lookup f55=some ⟨oc55,od55,.func (W.fnOf "law" "law" (dC kj) (cD kj) (aa kj) .none kV55 dc55 pm55 an55 cd55 ct55),sl55⟩)
  (c55:W.codeIn K cd55 "law"=true) (k55:W.keepIn K (.ref f55)=true)
  (pg_View:W.plainGet K C6 Str.empty=true)
  (hd_View:W.hasDictIn K C6=true)
  (po_View:W.plainOver K C6=true)
  (sa_View:W.findIn K (.ref C6) "__setattr__"=some (some (.builtin "object.__setattr__")))
  (nf_View_axes:W.findIn K (.ref C6) "axes"=some none)
  (nf_View_first:W.findIn K (.ref C6) "first"=some none)
  (nf_View_room:W.findIn K (.ref C6) "room"=some none)
  (fi_View___init__:W.findIn K (.ref C6) "__init__"=some (some (.ref f14)))
  (fn_View___init__:W.isFn K (.ref f14)=true)
  (mm_View:W.makesIn K C6=true)
  (ck_View:W.keepIn K (.ref C6)=true)
  (fi_View_sizes:W.findIn K (.ref C6) "sizes"=some (some (.ref f15)))
  (fn_View_sizes:W.isFn K (.ref f15)=true)
  (fi_View_paces:W.findIn K (.ref C6) "paces"=some (some (.ref f16)))
  (fn_View_paces:W.isFn K (.ref f16)=true)
  (fi_View_cell:W.findIn K (.ref C6) "cell"=some (some (.ref f17)))
  (fn_View_cell:W.isFn K (.ref f17)=true)
  (fi_View_least:W.findIn K (.ref C6) "least"=some (some (.ref f18)))
  (fn_View_least:W.isFn K (.ref f18)=true)
  (fi_View_greatest:W.findIn K (.ref C6) "greatest"=some (some (.ref f19)))
  (fn_View_greatest:W.isFn K (.ref f19)=true)
  {tk0:Tok} (w0:W.nsIn K mainGlobals "MOST_ROOM"=some (some (.int 1000000000000000000 tk0)))
  {tk1:Tok} (w1:W.nsIn K mainGlobals "MOST_SIZE"=some (some (.int 1000000000 tk1)))
  {tk2:Tok} (w2:W.nsIn K mainGlobals "MOST_AXES"=some (some (.int 8 tk2)))
  {tk3:Tok} (w3:W.nsIn K mainGlobals "MOST_CASES"=some (some (.int 100000 tk3)))
  (z0:W.nsIn K mainGlobals "ValueError"=some none)
  (z1:W.nsIn K mainGlobals "abs"=some none)
  (z2:W.nsIn K mainGlobals "all"=some none)
  (z3:W.nsIn K mainGlobals "bool"=some none)
  (z4:W.nsIn K mainGlobals "enumerate"=some none)
  (z5:W.nsIn K mainGlobals "int"=some none)
  (z6:W.nsIn K mainGlobals "isinstance"=some none)
  (z7:W.nsIn K mainGlobals "len"=some none)
  (z8:W.nsIn K mainGlobals "list"=some none)
  (z9:W.nsIn K mainGlobals "max"=some none)
  (z10:W.nsIn K mainGlobals "min"=some none)
  (z11:W.nsIn K mainGlobals "range"=some none)
  (z12:W.nsIn K mainGlobals "reversed"=some none)
  (z13:W.nsIn K mainGlobals "sorted"=some none)
  (z14:W.nsIn K mainGlobals "sum"=some none)
  (z15:W.nsIn K mainGlobals "tuple"=some none)
  (z16:W.nsIn K mainGlobals "zip"=some none)
  : ∃ fd:FuncData,(∀ (s:Shared) (v:Value),BindsTo s fd ⟨[v],[]⟩ [("_law_script",v)])/\∀ base:Heap,K.In base->base.Ns mainGlobals mg->bj l.prog w K mg base CX0 9 fa fd ["_law_script"] (uy K):=by
 have e:=hfa.symm.trans (MX X G a55);cases e;have F29:=EB (st:=fh) l29 c29 k29;have F55:=IA (st:=kj) l55 c55 k55;have T:Tx K mg ⟨C0,C1,C2,C3,C4,C5,C6,f0,_,f1,_,f2,_,f3,_,f4,_,f5,_,f6,_,f7,_,f8,_,f9,_,f10,_,f11,_,f12,_,f13,_,f14,_,f15,_,f16,_,f17,_,f18,_,f19,_,f20,_,f21,_,f22,_,f23,_,f24,_,f25,_,f26,_,f27,_,f28,_,f29,_,f30,_,f31,_,f32,_,f33,_,f34,_,f35,_,f36,_,f37,_,f38,_,f39,_,f40,_,f41,_,f42,_,f43,_,f44,_,f45,_,f46,_,f47,_,f48,_,f49,_,f50,_,f51,_,f52,_,f53,_,f54,_,fa,_⟩:=⟨MX X G y0,MX X G y1,MX X G y2,MX X G y3,MX X G y4,MX X G y5,MX X G y6,o_NoPair,o_NoMost,x_NoPair_PaceError,x_NoMost_PaceError,ocs,oct,ga_NoPair,gn_NoPair,mb_NoPair,mo_NoPair,fc_NoPair,hd_NoPair,ga_NoMost,gn_NoMost,mb_NoMost,mo_NoMost,fc_NoMost,hd_NoMost,kc_NoPair_NoCount,kt_NoPair_NoCount,ks_NoPair_NoCount,kn_NoPair_NoCount,kc_NoPair_NoPair,kt_NoPair_NoPair,ks_NoPair_NoPair,kc_NoPair_NoMost,kt_NoPair_NoMost,ks_NoPair_NoMost,kn_NoPair_NoMost,ks_NoPair_ValueError,kc_NoMost_NoCount,kt_NoMost_NoCount,ks_NoMost_NoCount,kn_NoMost_NoCount,kc_NoMost_NoPair,kt_NoMost_NoPair,ks_NoMost_NoPair,kn_NoMost_NoPair,kc_NoMost_NoMost,kt_NoMost_NoMost,ks_NoMost_NoMost,ks_NoMost_ValueError,⟨_,MX X G w0⟩,⟨_,MX X G w1⟩,⟨_,MX X G w2⟩,⟨_,MX X G w3⟩,⟨pg_View,hd_View,po_View,sa_View⟩,nf_View_axes,nf_View_first,nf_View_room,⟨mm_View,fi_View___init__,fn_View___init__,ck_View⟩,⟨fi_View_sizes,fn_View_sizes,F15.kp⟩,⟨fi_View_paces,fn_View_paces,F16.kp⟩,⟨fi_View_cell,fn_View_cell,F17.kp⟩,⟨fi_View_least,fn_View_least,F18.kp⟩,⟨fi_View_greatest,fn_View_greatest,F19.kp⟩,F0,MX X G a0,F0.binds (ps:=["thing"]) (λ _ _ _ _ _ _=>kf (λ _=>rfl)),F1,MX X G a1,F1.binds (ps:=["one", "other"]) (λ _ _ _ _ _ _=>oG (λ _ _=>rfl)),F2,MX X G a2,F2.binds (ps:=["numbers"]) (λ _ _ _ _ _ _=>kf (λ _=>rfl)),F3,MX X G a3,F3.binds (ps:=["terms", "case"]) (λ _ _ _ _ _ _=>oG (λ _ _=>rfl)),F4,MX X G a4,F4.binds (ps:=["terms", "case"]) (λ _ _ _ _ _ _=>oG (λ _ _=>rfl)),F5,MX X G a5,F5.binds (ps:=["terms", "case"]) (λ _ _ _ _ _ _=>oG (λ _ _=>rfl)),F6,MX X G a6,F6.binds (ps:=["terms", "goal", "case"]) (λ _ _ _ _ _ _=>sE (λ _ _ _=>rfl)),F7,MX X G a7,F7.binds (ps:=["thing", "bound"]) (λ _ _ _ _ _ _=>oG (λ _ _=>rfl)),F8,MX X G a8,F8.binds (ps:=["sizes", "thing"]) (λ _ _ _ _ _ _=>oG (λ _ _=>rfl)),F9,MX X G a9,F9.binds (ps:=["thing", "low", "high"]) (λ _ _ _ _ _ _=>sE (λ _ _ _=>rfl)),F10,MX X G a10,F10.binds (ps:=["thing"]) (λ _ _ _ _ _ _=>kf (λ _=>rfl)),F11,MX X G a11,F11.binds (ps:=["thing"]) (λ _ _ _ _ _ _=>kf (λ _=>rfl)),F12,MX X G a12,F12.binds (ps:=["thing"]) (λ _ _ _ _ _ _=>kf (λ _=>rfl)),F13,MX X G a13,F13.binds (ps:=["axis"]) (λ _ _ _ _ _ _=>kf (λ _=>rfl)),F14,F14.binds (ps:=["self", "room", "first", "axes"]) (λ _ _ _ _ _ _=>yt (λ _ _ _ _=>rfl)),F15,F15.binds (ps:=["self"]) (λ _ _ _ _ _ _=>kf (λ _=>rfl)),F16,F16.binds (ps:=["self"]) (λ _ _ _ _ _ _=>kf (λ _=>rfl)),F17,F17.binds (ps:=["self", "place"]) (λ _ _ _ _ _ _=>oG (λ _ _=>rfl)),F18,F18.binds (ps:=["self"]) (λ _ _ _ _ _ _=>kf (λ _=>rfl)),F19,F19.binds (ps:=["self"]) (λ _ _ _ _ _ _=>kf (λ _=>rfl)),F20,MX X G a20,F20.binds (ps:=["one", "other"]) (λ _ _ _ _ _ _=>oG (λ _ _=>rfl)),F21,MX X G a21,F21.binds (ps:=["one", "other"]) (λ _ _ _ _ _ _=>oG (λ _ _=>rfl)),F22,MX X G a22,F22.binds (ps:=["one", "other"]) (λ _ _ _ _ _ _=>oG (λ _ _=>rfl)),F23,MX X G a23,F23.binds (ps:=["terms"]) (λ _ _ _ _ _ _=>kf (λ _=>rfl)),F24,MX X G a24,F24.binds (ps:=["case", "k", "at"]) (λ _ _ _ _ _ _=>sE (λ _ _ _=>rfl)),F25,MX X G a25,F25.binds (ps:=["terms", "goal", "case"]) (λ _ _ _ _ _ _=>sE (λ _ _ _=>rfl)),F26,MX X G a26,F26.binds (ps:=["times", "bounds", "above_least", "below_greatest"]) (λ _ _ _ _ _ _=>yt (λ _ _ _ _=>rfl)),F27,MX X G a27,F27.binds (ps:=["terms", "goal", "case"]) (λ _ _ _ _ _ _=>sE (λ _ _ _=>rfl)),F28,MX X G a28,F28.binds (ps:=["one", "other", "terms", "numbers"]) (λ _ _ _ _ _ _=>yt (λ _ _ _ _=>rfl)),F29,MX X G a29,(λ s us hin hl=>match us,(show us.length=3 by simp only [ML,Nc,OO] at hl;omega) with|[_,_,_],_=>BindsTo.of_defaults rfl (hin _ _ q29) rfl rfl rfl),⟨_,(λ s us hin hl=>match us,(show us.length=2 by simp only [ML,Nc,OO] at hl;omega) with|[_,_],_=>BindsTo.of_defaults rfl (hin _ _ q29) rfl rfl rfl)⟩,F30,MX X G a30,F30.binds (ps:=["_law_script", "_law_k", "_law_many"]) (λ _ _ _ _ _ _=>sE (λ _ _ _=>rfl)),F31,MX X G a31,F31.binds (ps:=["_law_found"]) (λ _ _ _ _ _ _=>kf (λ _=>rfl)),F32,MX X G a32,F32.binds (ps:=["_law_script", "_law_at", "_law_factor"]) (λ _ _ _ _ _ _=>sE (λ _ _ _=>rfl)),F33,MX X G a33,F33.binds (ps:=["_law_script", "_law_at", "_law_pool"]) (λ _ _ _ _ _ _=>sE (λ _ _ _=>rfl)),F34,MX X G a34,F34.binds (ps:=["_law_one", "_law_other", "_law_goal", "_law_low", "_law_more"]) (λ _ _ _ _ _ _=>Jt (λ _ _ _ _ _=>rfl)),F35,MX X G a35,F35.binds (ps:=["_law_one", "_law_other"]) (λ _ _ _ _ _ _=>oG (λ _ _=>rfl)),F36,MX X G a36,F36.binds (ps:=["_law_terms_here"]) (λ _ _ _ _ _ _=>kf (λ _=>rfl)),F37,MX X G a37,F37.binds (ps:=["_law_terms_here"]) (λ _ _ _ _ _ _=>kf (λ _=>rfl)),F38,MX X G a38,F38.binds (ps:=["_law_place", "_law_axes_here"]) (λ _ _ _ _ _ _=>oG (λ _ _=>rfl)),F39,MX X G a39,F39.binds (ps:=["_law_first", "_law_axes_here", "_law_place"]) (λ _ _ _ _ _ _=>sE (λ _ _ _=>rfl)),F40,MX X G a40,F40.binds (ps:=["_law_found", "_law_one", "_law_other", "_law_goal"]) (λ _ _ _ _ _ _=>yt (λ _ _ _ _=>rfl)),F41,MX X G a41,F41.binds (ps:=["_law_terms_here", "_law_case"]) (λ _ _ _ _ _ _=>oG (λ _ _=>rfl)),F42,MX X G a42,F42.binds (ps:=["_law_numbers"]) (λ _ _ _ _ _ _=>kf (λ _=>rfl)),F43,MX X G a43,F43.binds (ps:=["_law_terms_here", "_law_goal", "_law_case"]) (λ _ _ _ _ _ _=>sE (λ _ _ _=>rfl)),F44,MX X G a44,F44.binds (ps:=["_law_terms_here", "_law_goal", "_law_case", "_law_by"]) (λ _ _ _ _ _ _=>yt (λ _ _ _ _=>rfl)),F45,MX X G a45,F45.binds (ps:=["_law_terms_here", "_law_goal", "_law_case", "_law_step"]) (λ _ _ _ _ _ _=>yt (λ _ _ _ _=>rfl)),F46,MX X G a46,F46.binds (ps:=["_law_terms_here", "_law_goal", "_law_paper", "_law_bare"]) (λ _ _ _ _ _ _=>yt (λ _ _ _ _=>rfl)),F47,MX X G a47,F47.binds (ps:=["_law_found", "_law_terms_here", "_law_goal", "_law_most"]) (λ _ _ _ _ _ _=>yt (λ _ _ _ _=>rfl)),F48,MX X G a48,F48.binds (ps:=["_law_found", "_law_one", "_law_other", "_law_goal", "_law_most"]) (λ _ _ _ _ _ _=>Jt (λ _ _ _ _ _=>rfl)),F49,MX X G a49,F49.binds (ps:=["_law_terms_here"]) (λ _ _ _ _ _ _=>kf (λ _=>rfl)),F50,MX X G a50,F50.binds (ps:=["_law_found", "_law_one", "_law_other", "_law_goal", "_law_most"]) (λ _ _ _ _ _ _=>Jt (λ _ _ _ _ _=>rfl)),F51,MX X G a51,F51.binds (ps:=["_law_here", "_law_there", "_law_most"]) (λ _ _ _ _ _ _=>sE (λ _ _ _=>rfl)),F52,MX X G a52,F52.binds (ps:=["_law_script", "_law_terms_here"]) (λ _ _ _ _ _ _=>oG (λ _ _=>rfl)),F53,MX X G a53,F53.binds (ps:=["_law_one", "_law_other", "_law_goal"]) (λ _ _ _ _ _ _=>sE (λ _ _ _=>rfl)),F54,MX X G a54,F54.binds (ps:=["_law_script"]) (λ _ _ _ _ _ _=>kf (λ _=>rfl)),F55,MX X G a55,F55.binds (ps:=["_law_script"]) (λ _ _ _ _ _ _=>kf (λ _=>rfl)),Nk X G z0,Nk X G z1,Nk X G z2,Nk X G z3,Nk X G z4,Nk X G z5,Nk X G z6,Nk X G z7,Nk X G z8,Nk X G z9,Nk X G z10,Nk X G z11,Nk X G z12,Nk X G z13,Nk X G z14,Nk X G z15,Nk X G z16⟩;exact⟨W.fnOf "law" "law" (dC kj) (cD kj) (aa kj) .none kV55 dc55 pm55 an55 cd55 ct55,λ s v=>.of_eq rfl,λ base _ _=>GF T⟩
theorem Mw{l:W.OpenLaw}{q:Program}{loose:List Str}{XP:(Str->Option Value)->Heap->Prop}{YP:World->Heap->Prop}{d:DefRec}{K:Params->W.Frag}(hn:l.most=some 63)(hdf:d.params.defaults=[])
  (hY:∀ (w:World) (h:Heap),YP w h->(K w.params).In h)
  (F:∀ (w:World) (mg:Str->Option Value) (fa:Addr) (h:Heap),(K w.params).In h->h.Ns mainGlobals mg->mg d.name=some (.ref fa) →
   ∃ fd:FuncData,(∀ (s:Shared) (u:Value),BindsTo s fd ⟨[u],[]⟩ [("_law_script",u)])/\∀ base:Heap,(K w.params).In base->base.Ns mainGlobals mg->bj l.prog w (K w.params) mg base CX0 9 fa fd ["_law_script"] (uy (K w.params))) :
  W.WalkO q loose XP YP l.row.toRowW d [] (λ f vs=>PySem.call f vs):=
 L2.K0 (n:=63) (k:=9) (x := "_law_script") (CX:=λ _=>CX0) (sp:=λ w=>uy (K w.params)) hn ⋯ hdf ⟨rfl,by decide,by decide⟩ hY F (λ _ _ a ns hl _ hS=>⟨a,rfl,ns,hS,hl,λ _=>rfl⟩) λ _ _ _ _ _ z=>z
end PH
namespace PySem.W.Fast
def tw16358802237031426457:=0
def tw10137836086678791643:=0
def tw11967574402732577786:=0
def tw3520358535422170054:=0
def tw2766363465297298422:=0
def tw9538490431463482849:=0
def tw16788421914475564459:=0
def tw10222218761998933422:=0
def tw3806564930554710389:=0
def tw6814024336626784523:=0
def tw10997905848718804980:=0
def tw13381958222930546962:=0
def tw9990341576917671659:=0
def tw15813977401545489193:=0
def tw18397726442218719676:=0
def tw7131331592439427335:=0
def tw10066530174229215253:=0
def tw12709149860419000334:=0
def tw13509804121811291875:=0
def tw1405198544201411398:=0
def tw10980094507834414505:=0
def tw9740340731096339698:=0
def tw12412061590794055243:=0
def tw11557433764311403804:=0
def tw13123341787144920776:=0
def tw16227839668616795219:=0
def tw15670499433799376707:=0
def tw6799415093339675947:=0
def tw11873127911836124441:=0
def tw14563375318394131191:=0
def tw4384408511910928268:=0
def tw7833431624910990630:=0
def tw6544112782408022888:=0
def tw3158855900773654718:=0
def tw15210318747834966887:=0
def tw10127792800247700992:=0
def tw10109683921753788918:=0
def tw16201779432953169042:=0
def tw11441696337239334589:=0
def tw13598980319762032551:=0
def tw15708973530437717614:=0
def tw17068240254458880880:=0
def tw10608607741827132632:=0
def tw235574453903707846:=0
def tw5050656714835471255:=0
def tw4165240510526540614:=0
def tw8389130021206139535:=0
def tw15293284574485808961:=0
def tw16396878415028783615:=0
def tw286478641646115769:=0
def tw17575890776716250138:=0
def tw17130734509168591069:=0
def tw11142599054363878715:=0
def tw3809373105434854714:=0
def tw16049199275836857669:=0
def tw10456048414010722938:=0
def tw10677931915255087229:=0
def tw9573297786981990034:=0
def tw9773576449133433180:=0
def tw16075812641399820333:=0
def tw3751347374560179303:=0
def tw12409175800174359180:=0
def tw5437444034825595334:=0
def tw4138531278178018656:=0
def tw1881466472040800997:=0
def tw7033907530918349697:=0
def tw3049127347806085864:=0
def tw11739001954676934646:=0
def tw1450834152470729939:=0
def tw653431974627543969:=0
def tw10590012875225116585:=0
def tw1712131564275074299:=0
def tw8440296913728495349:=0
def tw3146782823574417147:=0
def tw4818082668098469777:=0
def tw16454932532695850818:=0
def tw15462163555892880131:=0
def tw15072489596447469330:=0
def tw16404412362276842428:=0
def tw7192147495399382102:=0
def tw3478431218432951809:=0
def tw4822385849528016158:=0
def tw6337367268499952134:=0
def tw17233621138527019326:=0
def tw5341321470721104222:=0
def tw5239517820099777879:=0
def tw17138119968922133287:=0
def tw16647555323073284393:=0
def tw7771003701976179001:=0
def tw7625656089565743866:=0
def tw3926163568648088108:=0
def tw106240571741602127:=0
def tw14610191575397084390:=0
def tw2509716599657992699:=0
def tw33961360339498546:=0
def tw9088128783274650001:=0
def tw12306710040353488987:=0
def tw5773099672465294375:=0
def tw8183754658347525766:=0
def tw12238387202919832912:=0
def tw8782956737341502157:=0
def tw8858852299265447152:=0
def tw5946678242886162074:=0
def tw17319175974382275826:=0
def tw7132694404903235444:=0
def tw3574949503155941144:=0
def tw1481939185607572979:=0
def tw17533887045522169759:=0
def tw16296123545339189945:=0
def tw172424274944665318:=0
def tw12567052480589125703:=0
def tw4398093936687389914:=0
def tw7907816728281085680:=0
def tw11955483449866351844:=0
def tw2786455140727221438:=0
def tw11724664768672699206:=0
end PySem.W.Fast
open PySem PySem.W PyProof.Rows
theorem PySem.Challenge.cw_pacehall_k56_open_and_refused_holds : PySem.Challenge.rw_pacehall_k56_open_and_refused.Holds := by
 w_on;o_law;k_head;(case hw=>w_witness2)
 k_fill
 refine PH.Mw (l:=PySem.Challenge.rw_pacehall_k56_open_and_refused) rfl rfl (λ w h Y=>PySem.W.kIn_of Y) ?F
 case F=>
  intro w mg fa h KX G hmg
  refine' PH.LY KX G hmg ?y0 ?y1 ?y2 ?y3 ?y4 ?y5 ?y6 ?o_NoPair ?o_NoMost ?x_NoPair_PaceError ?x_NoMost_PaceError ?ocs ?oct ?ga_NoPair ?gn_NoPair ?mb_NoPair ?mo_NoPair ?fc_NoPair ?hd_NoPair ?ga_NoMost ?gn_NoMost ?mb_NoMost ?mo_NoMost ?fc_NoMost ?hd_NoMost ?kc_NoPair_NoCount ?kt_NoPair_NoCount ?ks_NoPair_NoCount ?kn_NoPair_NoCount ?kc_NoPair_NoPair ?kt_NoPair_NoPair ?ks_NoPair_NoPair ?kc_NoPair_NoMost ?kt_NoPair_NoMost ?ks_NoPair_NoMost ?kn_NoPair_NoMost ?ks_NoPair_ValueError ?kc_NoMost_NoCount ?kt_NoMost_NoCount ?ks_NoMost_NoCount ?kn_NoMost_NoCount ?kc_NoMost_NoPair ?kt_NoMost_NoPair ?ks_NoMost_NoPair ?kn_NoMost_NoPair ?kc_NoMost_NoMost ?kt_NoMost_NoMost ?ks_NoMost_NoMost ?ks_NoMost_ValueError ?a0 ?F0 ?a1 ?F1 ?a2 ?F2 ?a3 ?F3 ?a4 ?F4 ?a5 ?F5 ?a6 ?F6 ?a7 ?F7 ?a8 ?F8 ?a9 ?F9 ?a10 ?F10 ?a11 ?F11 ?a12 ?F12 ?a13 ?F13 ?F14 ?F15 ?F16 ?F17 ?F18 ?F19 ?a20 ?F20 ?a21 ?F21 ?a22 ?F22 ?a23 ?F23 ?a24 ?F24 ?a25 ?F25 ?a26 ?F26 ?a27 ?F27 ?a28 ?F28 ?a29 ?l29 ?q29 ?c29 ?k29 ?a30 ?F30 ?a31 ?F31 ?a32 ?F32 ?a33 ?F33 ?a34 ?F34 ?a35 ?F35 ?a36 ?F36 ?a37 ?F37 ?a38 ?F38 ?a39 ?F39 ?a40 ?F40 ?a41 ?F41 ?a42 ?F42 ?a43 ?F43 ?a44 ?F44 ?a45 ?F45 ?a46 ?F46 ?a47 ?F47 ?a48 ?F48 ?a49 ?F49 ?a50 ?F50 ?a51 ?F51 ?a52 ?F52 ?a53 ?F53 ?a54 ?F54 ?a55 ?l55 ?c55 ?k55 ?pg_View ?hd_View ?po_View ?sa_View ?nf_View_axes ?nf_View_first ?nf_View_room ?fi_View___init__ ?fn_View___init__ ?mm_View ?ck_View ?fi_View_sizes ?fn_View_sizes ?fi_View_paces ?fn_View_paces ?fi_View_cell ?fn_View_cell ?fi_View_least ?fn_View_least ?fi_View_greatest ?fn_View_greatest ?w0 ?w1 ?w2 ?w3 ?z0 ?z1 ?z2 ?z3 ?z4 ?z5 ?z6 ?z7 ?z8 ?z9 ?z10 ?z11 ?z12 ?z13 ?z14 ?z15 ?z16
  (case y0|y1|y2|y3|y4|y5|y6|fi_View___init__|fi_View_sizes|fi_View_paces|fi_View_cell|fi_View_least=>first|k_is|k_exc|kts_exm|decide|rfl|decide +kernel|kernel_rfl)
  (case fi_View_greatest|a0|a1|a2|a3|a4|a5|a6|a7|a8|a9|a10=>first|k_is|k_exc|kts_exm|decide|rfl|decide +kernel|kernel_rfl)
  (case a11|a12|a13|a20|a21|a22|a23|a24|a25|a26|a27|a28=>first|k_is|k_exc|kts_exm|decide|rfl|decide +kernel|kernel_rfl)
  (case a29|a30|a31|a32|a33|a34|a35|a36|a37|a38|a39|a40=>first|k_is|k_exc|kts_exm|decide|rfl|decide +kernel|kernel_rfl)
  (case a41|a42|a43|a44|a45|a46|a47|a48|a49|a50|a51|a52=>first|k_is|k_exc|kts_exm|decide|rfl|decide +kernel|kernel_rfl)
  (case a53|a54|a55=>first|k_is|k_exc|kts_exm|decide|rfl|decide +kernel|kernel_rfl)
  (case F0|F1|F2|F3|F4|F5|F6|F7|F8|F9|F10|F11=>(refine' L2.IA ?l ?c ?k;(case l|c|k=>first|k_is|k_exc|kts_exm|decide|rfl|decide +kernel|kernel_rfl)))
  (case F12|F13|F14|F15|F16|F17|F18|F19|F20|F21|F22|F23=>(refine' L2.IA ?l ?c ?k;(case l|c|k=>first|k_is|k_exc|kts_exm|decide|rfl|decide +kernel|kernel_rfl)))
  (case F24|F25|F26|F27|F28|F30|F31|F32|F33|F34|F35|F36=>(refine' L2.IA ?l ?c ?k;(case l|c|k=>first|k_is|k_exc|kts_exm|decide|rfl|decide +kernel|kernel_rfl)))
  (case F37|F38|F39|F40|F41|F42|F43|F44|F45|F46|F47|F48=>(refine' L2.IA ?l ?c ?k;(case l|c|k=>first|k_is|k_exc|kts_exm|decide|rfl|decide +kernel|kernel_rfl)))
  (case F49|F50|F51|F52|F53|F54=>(refine' L2.IA ?l ?c ?k;(case l|c|k=>first|k_is|k_exc|kts_exm|decide|rfl|decide +kernel|kernel_rfl)))
  (case o_NoPair|o_NoMost|x_NoPair_PaceError|x_NoMost_PaceError|ocs|oct|ga_NoPair|gn_NoPair|mb_NoPair|mo_NoPair|fc_NoPair|hd_NoPair=>first|k_is|k_exc|kts_exm|decide|rfl|decide +kernel|kernel_rfl)
  (case ga_NoMost|gn_NoMost|mb_NoMost|mo_NoMost|fc_NoMost|hd_NoMost|kc_NoPair_NoCount|kt_NoPair_NoCount|ks_NoPair_NoCount|kn_NoPair_NoCount|kc_NoPair_NoPair|kt_NoPair_NoPair=>first|k_is|k_exc|kts_exm|decide|rfl|decide +kernel|kernel_rfl)
  (case ks_NoPair_NoPair|kc_NoPair_NoMost|kt_NoPair_NoMost|ks_NoPair_NoMost|kn_NoPair_NoMost|ks_NoPair_ValueError|kc_NoMost_NoCount|kt_NoMost_NoCount|ks_NoMost_NoCount|kn_NoMost_NoCount|kc_NoMost_NoPair|kt_NoMost_NoPair=>first|k_is|k_exc|kts_exm|decide|rfl|decide +kernel|kernel_rfl)
  (case ks_NoMost_NoPair|kn_NoMost_NoPair|kc_NoMost_NoMost|kt_NoMost_NoMost|ks_NoMost_NoMost|ks_NoMost_ValueError|l29|q29|c29|k29|l55|c55=>first|k_is|k_exc|kts_exm|decide|rfl|decide +kernel|kernel_rfl)
  (case k55|pg_View|hd_View|po_View|sa_View|nf_View_axes|nf_View_first|nf_View_room|fn_View___init__|mm_View|ck_View|fn_View_sizes=>first|k_is|k_exc|kts_exm|decide|rfl|decide +kernel|kernel_rfl)
  (case fn_View_paces|fn_View_cell|fn_View_least|fn_View_greatest|w0|w1|w2|w3|z0|z1|z2|z3=>first|k_is|k_exc|kts_exm|decide|rfl|decide +kernel|kernel_rfl)
  (case z4|z5|z6|z7|z8|z9|z10|z11|z12|z13|z14|z15=>first|k_is|k_exc|kts_exm|decide|rfl|decide +kernel|kernel_rfl)
  (case z16=>first|k_is|k_exc|kts_exm|decide|rfl|decide +kernel|kernel_rfl)
#print axioms PySem.Challenge.cw_pacehall_k56_open_and_refused_holds