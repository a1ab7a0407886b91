import PyProof.Rows.All
import Wide.All
import OpenK.AllK
import Wide.FinOn
import Lean
import PyProof.EqAt
import PyProof.EqKinds
import PyProof.TupleCall
import PySem.Challenge.RW_pacehall_k59_whole_blocks_of_one_whole
set_option Elab.async false
set_option linter.all false
set_option maxRecDepth 100000
set_option maxHeartbeats 0
open List (mem_cons_self mem_cons_of_mem mem_append_left mem_append_right length_cons map_cons length_map append_nil of_mem_zip length_take getElem?_append_right getElem?_append_left getElem?_map mem_of_getElem? length_append size_toArray length_drop length_set reverse_cons length_singleton length_reverse find?_cons length_nil getElem_mem getElem?_eq_getElem lookup_cons mem_cons not_mem_nil take_of_length_le take_length getElem?_eq_none length_zip take_add_one map_map zip_cons_cons sum_cons getD_eq_getElem?_getD map_append append_assoc mem_map_of_mem)
namespace QL
def KU:=@List.getElem?_eq_getElem
def KW:=@PySem.wpAny_bind
def KY:=@PySem.Heap.get?_push_of_some
def KZ:=@List.mem_cons_of_mem
def K0:=@List.getElem?_eq_some_iff
def K1:=@List.mem_cons_self
def K2:=@List.length_map
def K3:=@Nat.le_refl
def K4:=@List.length_append
def K5:=@if_neg
def K6:=@PySem.Heap.lt_size
def K7:=@if_pos
def K8:=@PySem.wpAny_pure
def K9:=@List.length_singleton
def La:=@PySem.Heap.get?_push_size
def Lb:=@List.getD_eq_getElem?_getD
def Lc:=@Int.mul_le_mul_of_nonneg_left
def Ld:=@List.size_toArray
def Le:=@Nat.lt_of_lt_of_le
def Lf:=@Nat.ne_of_lt
def Lg:=@Bool.false_ne_true
def Lh:=@List.getElem?_map
def Li:=@PySem.F.plainAttrs_list
def Lj:=@decide_eq_false
def Lk:=@List.getElem?_append_right
def Ll:=@decide_eq_true
def Lm:=@Option.map_eq_some_iff
def Ln:=@List.mem_singleton
def Lo:=@List.mem_map
def Lp:=@Int.le_refl
def Lq:=@PySem.W.mg_of
def Lr:=@List.length_cons
def Ls:=@List.mem_cons
def Lu:=@List.mem_append
def Lv:=@PySem.PassesOwn.never
def Lw:=@Ne.symm
def Lx:=@List.mem_append_right
def Ly:=@Int.mul_le_mul
def Lz:=@Int.mul_assoc
def LA:=@List.length_reverse
def LB:=@Option.some.inj
def LC:=@PySem.W.mg_none_of
def LD:=@List.nodup_cons
def LF:=@Int.zero_add
def LG:=@List.map_cons
def LH:=@Int.mul_nonneg
def LI:=@List.not_mem_nil
def LJ:=@Nat.zero_le
def LK:=@Int.toNat_natCast
def LL:=@Int.mul_zero
def LM:=@Int.mul_comm
def LN:=@PyProof.Rows.callWith_type1
def LO:=@Int.eq_ofNat_of_zero_le
def LP:=@Int.emod_nonneg
def LQ:=@List.getElem?_append_left
def LR:=@Int.one_mul
def LS:=@List.getElem?_zip_eq_some
def LU:=@Nat.le_trans
def LV:=@Int.mul_le_mul_of_nonneg_right
def LW:=@List.length_take
def LX:=@PySem.wpAny_truthy_bool
def LY:=@PySem.wpAny_field
def LZ:=@PySem.F.type_list_append
def L3:=@PySem.F.slot_list_append
def L4:=@PySem.Heap.size_push
def L5:=@List.mem_append_left
def L6:=@congrArg
def L7:=@Int.add_zero
def L8:=@Int.neg_one_mul
def L9:=@Int.mul_add
def Ma:=@List.take_of_length_le
def Mb:=@List.map_append
def Mc:=@List.length_zip
def Md:=@PySem.wpAny_newObj_type
def Me:=@Int.fdiv_eq_ediv_of_nonneg
def Mf:=@List.mem_reverse
def Mg:=@Int.emod_lt_of_pos
def Mh:=@Int.mul_one
def Mi:=@List.map_map
def Mj:=@List.getElem?_eq_none
def Ml:=@List.mem_filter
def Mm:=@List.getElem_mem
def Mn:=@PySem.wpAny_seqItems
def Mo:=@or_false
def Mp:=@Array.length_toList
def Mq:=@PySem.wpAny_callSpecial?_slot
def Mr:=@List.getElem?_reverse
def Ms:=@Int.ediv_nonneg
def Mt:=@Nat.lt_irrefl
def Mu:=@PySem.wpAny_setField_rec
def Mv:=@PySem.wpAny_Call_Name_kw
def Mw:=@List.take_length
def Mx:=@List.reverse_cons
def My:=@List.mem_of_getElem?
def Mz:=@List.lookup_cons
def MB:=@List.append_assoc
def MD:=@PySem.wpAny_passesOwn
def MF:=@List.mem_range
def MG:=@List.append_nil
def MH:=@Nat.lt_succ_self
def MI:=@beq_eq_false_iff_ne
def MJ:=@PySem.mem_of_lookup
def MK:=@List.map_congr_left
def ML:=@Nat.ne_of_gt
def MM:=@PySem.F.slot_tuple_iterator_next
def MN:=@List.mem_map_of_mem
def MO:=@Option.map_some
def MP:=@Nat.add_sub_cancel
def MQ:=@PySem.wpAny_call_entry
def MS:=@List.drop_of_length_le
def MU:=@PyProof.Rows.slot_tuple_getitem
def MV:=@Int.mul_sub
def MW:=@List.zip_cons_cons
def MX:=@PySem.wpAny_holding
def MY:=@PySem.W.kia_one
def MZ:=@Nat.le_add_right
def M0:=@List.all_eq_true
def M1:=@List.length_drop
def M3:=@List.take_add_one
def M4:=@Bool.eq_iff_iff
def M5:=@Nat.sub_self
def M6:=@Nat.lt_trans
def M7:=@Nat.le_of_lt
def M8:=@List.filter_append
def M9:=@List.of_mem_zip
def Na:=@List.length_nil
def Nb:=@PySem.F.type_list_reverse
def Nc:=@PySem.F.slot_list_reverse
def Nd:=@List.drop_eq_getElem_cons
def Nf:=@PySem.F.args_tuple_add_2
def Ng:=@List.length_range
def Nh:=@PySem.F.entry_tuple_add
def Ni:=@List.length_eq_zero_iff
def Nj:=@List.getElem?_replicate
def Nk:=@Int.neg_mul
def Nl:=@Int.emod_eq_zero_of_dvd
def Nm:=@PySem.codeAny_mono
def Nn:=@Nat.min_eq_right
def Np:=@List.map_reverse
def Nq:=@PySem.Calls.spliced_cons
def Nr:=@Bool.and_eq_true
def Nt:=@PySem.F.slot_tuple_add
def Nu:=@List.find?_cons
def Nv:=@PySem.wpAny_pyIter_list
def Nw:=@PySem.wpAny_mono
def Nx:=@PySem.F.type_list_pop
def Ny:=@PySem.F.slot_list_pop
def Nz:=@PySem.F.slot_dict_get
def NA:=@Nat.succ.inj
def NB:=@Nat.min_eq_left
def NC:=@List.mem_iff_getElem?
def ND:=@PySem.wpAny_standAt
def NF:=@PySem.Paired.length
def NG:=@List.dropLast_concat
def NH:=@List.nodup_nil
def NI:=@Bool.and_false
def NJ:=@List.filterMap_cons
def NK:=@PySem.Heap.get?_update_other
def NL:=@PySem.Calls.callWith_builtin
def NM:=@PySem.wpAny_execs_nil
def NN:=@List.sum_cons
def NO:=@List.length_set
def NP:=@List.pairwise_cons
def NQ:=@PySem.Heap.get?_update_self
def NR:=@PySem.F.slot_zip_next
def NS:=@PySem.wpAny_updateSeq_pair
def NT:=@if_true
def NU:=@beq_iff_eq
def NV:=@Nat.lt_succ_of_lt
def NW:=@List.ext_getElem?
def NX:=@PySem.wpAny_comprehension_free
def NY:=@Nat.le_total
def NZ:=@beq_self_eq_true
def N2:=@Nat.le_of_not_lt
def N3:=@List.getElem_zip
def N4:=@List.drop_length
def N5:=@if_false
def N6:=@PySem.wpAny_onRaise
def N7:=@PySem.tupleKind_room_in1
def N8:=@List.forIn_cons
end QL
open QL
namespace L2
open PySem PySem.Spec PyProof.Rows
abbrev Key:=Sum Int Str
def lI:Key->Value->Bool
 | .inl k,v=>Value.isInt k v
 | .inr x,v=>Value.isStrOf x v
def KD(w:World):Key->Int
 | .inl k=>hashInt k
 | .inr x=>hashStr w x
theorem aJ:∀ {k:Key}{v:Value},lI k v=true->(∃ i t,k=Sum.inl i/\v=Value.int i t)\/(∃ x t,k=Sum.inr x/\v=Value.str x t)
 | .inl i,v,h=>by
  obtain⟨t,e⟩:=Value.isInt_shape (k:=i) (v:=v) h;exact .inl ⟨i,t,rfl,e⟩
 | .inr x,v,h=>by
  obtain⟨t,e⟩:=Value.isStrOf_shape (x:=x) (v:=v) h;exact .inr ⟨x,t,rfl,e⟩
theorem wO(i:Int)(t:Tok):lI (.inl i) (.int i t)=true:=by simp [lI,Value.isInt]
theorem wN(x:Str)(t:Tok):lI (.inr x) (.str x t)=true:=by simp [lI,Value.isStrOf]
theorem GU(a b:Int):decide ((Sum.inl a:Key)=Sum.inl b)=(a == b):=by
 by_cases e:a=b
 ·subst e;simp
 ·have h:¬ (Sum.inl a:Key)=Sum.inl b:=λ q=>e (Sum.inl.inj q);rw [Lj h];exact(MI.mpr e).symm
theorem GQ(a b:Str):decide ((Sum.inr a:Key)=Sum.inr b)=decide (a=b):=by
 by_cases e:a=b
 ·subst e;simp
 ·have h:¬ (Sum.inr a:Key)=Sum.inr b:=λ q=>e (Sum.inr.inj q);rw [Lj h,Lj e]
theorem GS(a:Int)(b:Str):decide ((Sum.inl a:Key)=Sum.inr b)=false:=Lj (λ q=>nomatch q)
theorem GR(a:Str)(b:Int):decide ((Sum.inr a:Key)=Sum.inl b)=false:=Lj (λ q=>nomatch q)
def ba(prog:Program)(w:World):PySem.KeyKind prog w Key where
 is:=lI
 hash:=KD w
 inj:=λ v a b ha hb=>by
  rcases aJ ha with ⟨i,t,rfl,rfl⟩|⟨x,t,rfl,rfl⟩
  ·rcases aJ hb with ⟨j,u,rfl,e⟩|⟨y,u,rfl,e⟩
   ·injection e with e1 _;rw [e1]
   ·exact nomatch e
  ·rcases aJ hb with ⟨j,u,rfl,e⟩|⟨y,u,rfl,e⟩
   ·exact nomatch e
   ·injection e with e1 _;rw [e1]
 byValue:=λ k v h=>by
  rcases aJ h with ⟨i,t,rfl,rfl⟩|⟨x,t,rfl,rfl⟩<;>rfl
 pyHash:=λ hv h=>by
  rcases aJ hv with ⟨i,t,rfl,rfl⟩|⟨x,t,rfl,rfl⟩
  ·exact wpAny_pyHash_int h
  ·exact wpAny_pyHash_str h
 eqBool:=λ hu hv h=>by
  rcases aJ hu with ⟨i,t,rfl,rfl⟩|⟨x,t,rfl,rfl⟩
  ·rcases aJ hv with ⟨j,u,rfl,rfl⟩|⟨y,u,rfl,rfl⟩
   ·rw [GU] at h;exact wpAny_eqBool_int h
   ·rw [GS] at h;exact SeqAt.EqAt.int_str i t y u _ _ _ _ h
  ·rcases aJ hv with ⟨j,u,rfl,rfl⟩|⟨y,u,rfl,rfl⟩
   ·rw [GR] at h;exact SeqAt.EqAt.str_int x t j u _ _ _ _ h
   ·rw [GQ] at h;exact wpAny_eqBool_str h
 «strs»:=λ k x t v h=>by
  rcases aJ h with ⟨i,u,rfl,e⟩|⟨y,u,rfl,e⟩
  ·exact nomatch e
  ·injection e with e1 _
   subst e1
   cases v<;>rfl
theorem oC(prog:Program)(w:World)(i:Int)(t:Tok):(ba prog w).is (.inl i) (.int i t)=true:=wO i t
theorem oz(prog:Program)(w:World)(x:Str)(t:Tok):(ba prog w).is (.inr x) (.str x t)=true:=wN x t
inductive V where
 | non|bl (b:Bool)|int (i:Int)|str (x:Str)|byt (b:Array UInt8)|flt (b:UInt64)|ref (a:Addr)|ty (n:String)
 deriving DecidableEq
def bp:V->Value->Prop
 | .non,u=>u=Value.none
 | .bl b,u=>u=Value.bool b
 | .int i,u=>∃ t,u=Value.int i t
 | .str x,u=>∃ t,u=Value.str x t
 | .byt b,u=>∃ t,u=Value.bytes b t
 | .flt b,u=>∃ t,u=Value.float b t
 | .ref a,u=>u=Value.ref a
 | .ty n,u=>u=Value.type n
abbrev aT:List V->List Value->Prop:=Paired bp
theorem aT.length{xs:List V}{us:List Value}(r:aT xs us):xs.length=us.length:=NF r
theorem aT.get:∀ {xs:List V}{us:List Value}{i:Nat}{x:V},aT xs us->xs[i]? = some x->∃ u,us[i]? = some u/\bp x u
 | _,_,_,_,.nil,e=>by simp at e
 | _,_,0,_,.cons r _,e=>by simp at e;subst e;exact⟨_,rfl,r⟩
 | _,_,i+1,x,.cons _ t,e=>by
  obtain⟨u,h1,h2⟩:=aT.get (i:=i) (x:=x) t (by simpa using e);exact⟨u,by simpa using h1,h2⟩
theorem aT.set{x:V}{u:Value}(r:bp x u):∀ {xs:List V}{us:List Value}(i:Nat),aT xs us->aT (xs.set i x) (us.set i u)
 | _,_,_,.nil=>.nil
 | _,_,0,.cons _ t=>.cons r t
 | _,_,i+1,.cons q t=>.cons q (aT.set r i t)
theorem aT.append:∀ {xs ys:List V}{us ws:List Value},aT xs us->aT ys ws->aT (xs++ys) (us++ws)
 | _,_,_,_,.nil,s=>s
 | _,_,_,_,.cons r t,s=>.cons r (aT.append t s)
theorem aT.take:∀ {xs:List V}{us:List Value}(n:Nat),aT xs us->aT (xs.take n) (us.take n)
 | _,_,0,_=>.nil
 | _,_,_+1,.nil=>.nil
 | _,_,n+1,.cons r t=>.cons r (aT.take n t)
theorem aT.drop:∀ {xs:List V}{us:List Value}(n:Nat),aT xs us->aT (xs.drop n) (us.drop n)
 | _,_,0,r=>r
 | _,_,_+1,.nil=>.nil
 | _,_,n+1,.cons _ t=>aT.drop n t
def lG:Option V->Option Value->Prop
 | some v,some u=>bp v u
 | none,none=>True
 | _,_=>False
def KV{κ:Type}:List (κ × V)->List (κ × Value)->Prop:=Paired λ (p:κ × V) (q:κ × Value)=>p.1=q.1/\bp p.2 q.2
def kV:Key->V
 | .inl i=>.int i
 | .inr x=>.str x
inductive HO where
 | lst (xs:List V)
 | tup (xs:List V)
 | dK (kvs:List (Key × V))|dT (kvs:List (List Key × V))
 | set (S:Int->Bool) (n:Nat)
 | ins (C dx:Addr) (fs:List (Str × V))
 | own (x:Addr)
 | xd (fs:List (Str × V))
 | met (f x:Addr)
 | rng (lo hi:Int)
 | frz (o:Obj) (u:HO)
 | tbl (ps:Array Value)
 | ext (φ:Heap->Prop)
abbrev Hp:=Addr->Option HO
def upd(H:Hp)(a:Addr)(o:HO):Hp:=λ b=>if b=a then some o else H b
theorem ah{H:Hp}{a:Addr}{o:HO}:upd H a o a=some o:=by unfold upd;rw [if_pos rfl]
theorem ae{H:Hp}{a b:Addr}{o:HO}(h:b ≠ a):upd H a o b=H b:=by unfold upd;rw [if_neg h]
theorem Bm{H:Hp}{a:Addr}{o u:HO}:upd (upd H a o) a u=upd H a u:=by
 funext b;unfold upd;split<;>rfl
theorem Iu{H:Hp}{a b:Addr}{o u:HO}(h:H a=some o)(h':H b=some u)(d:o ≠ u):a ≠ b:=by
 intro e;subst e;rw [h] at h';exact d (LB h')
theorem bI{H:Hp}{a b:Addr}{o:HO}(h:H a=some o)(h':H b=none):a ≠ b:=by
 intro e;subst e;rw [h] at h';cases h'
section
variable (P:Program)(w:World)
def bV(H:Hp)(h:Heap)(a:Addr):HO->Prop
 | .lst xs=>xs.length<=sizeLine/\∃ (its:List Value) (n:Nat),aT xs its/\h.get? a=some { cls:=.type "list",data:=.seq its.toArray n }
 | .tup xs=>xs.length<=sizeLine/\∃ its:List Value,aT xs its/\IsTup h a its.toArray
 | .dK kvs=>kvs.length<=sizeLine/\(a == sysModules)=false/\∃ vs,KV kvs vs/\h.DictOf (ba P w) a vs
 | .dT kvs=>kvs.length<=sizeLine/\(a == sysModules)=false/\∃ xs:List (List Key × Addr × Value),
   Paired (λ (p:List Key × V) (q:List Key × Addr × Value)=>p.1=q.1/\H q.2.1=some (.tup (p.1.map kV))/\bp p.2 q.2.2) kvs xs /\
   ∃ o es ep,h.get? a=some o/\o.ExactDict/\o.data=.dict es ep/\es.toList=xs.map (entryOfKey (tupleKind (ba P w)))/\(xs.map (·.1)).Nodup
 | .set S n=>h.SetOf (intKind P w) a S n
 | .ins C dx fs=>H dx=some (.own a)/\fs.length<=1000/\dx ≠ a/\h.get? a=some (W.instObj C dx) /\
   ∃ mA,h.Ns1 dx mA/\(∀ f,lG (fs.lookup f) (mA f))/\PySem.Within mA (fs.map (·.1))
 | .own _=>∃ o,h.get? a=some o
 | .xd fs=>∃ mA,h.Ns1 a mA/\∀ f,lG (fs.lookup f) (mA f)
 | .rng lo hi=>∃ t u v,h.get? a=some { cls:=.type "range",data:=.fields #[.int lo t,.int hi u,.int 1 v] }
 | .frz o u=>h.get? a=some o/\bV H h a u
 | .tbl ps=>h.get? a=some { cls:=.none,data:=.fields ps }
 | .met f x=>h.get? a=some (W.methodObj (.ref f) (.ref x))
 | .ext φ=>φ h/\(∃ o,h.get? a=some o)/\∀ h1 h2:Heap,φ h1->(∀ o,h1.get? a=some o->h2.get? a=some o)->φ h2
def HOk(H:Hp)(h:Heap):Prop:=∀ a o,H a=some o->bV P w H h a o
end
section
variable {P:Program}{w:World}{H H':Hp}{h h':Heap}{a:Addr}{o:HO}
theorem bV.lt(x:bV P w H h a o):a < h.objs.size:=by
 cases o with
 | lst xs=>obtain⟨_,_,_,_,e⟩:=x;exact K6 e
 | tup xs=>obtain⟨_,_,_,p⟩:=x;exact p.lt
 | dK kvs=>obtain⟨_,_,_,_,o,_,_,e,_⟩:=x;exact K6 e
 | dT kvs=>obtain⟨_,_,_,_,o,_,_,e,_⟩:=x;exact K6 e
 | set S n=>obtain⟨o,_,_,_,e,_⟩:=x;exact K6 e
 | ins C dx fs=>obtain⟨_,_,_,e,_⟩:=x;exact K6 e
 | own y=>obtain⟨_,e⟩:=x;exact K6 e
 | xd fs=>obtain⟨_,⟨_,_,_,e,_⟩,_⟩:=x;exact K6 e
 | rng lo hi=>obtain⟨_,_,_,e⟩:=x;exact K6 e
 | frz ob u=>obtain⟨e,_⟩:=x;exact K6 e
 | tbl ps=>exact K6 (show h.get? a=some _ from x)
 | met f y=>exact K6 (show h.get? a=some _ from x)
 | ext φ=>obtain⟨_,⟨_,e⟩,_⟩:=x;exact K6 e
theorem Paired.mapP{α β:Type}{F G:α->β->Prop}:∀ {l₁:List α}{l₂:List β},Paired F l₁ l₂->(∀ a b,F a b->G a b)->Paired G l₁ l₂
 | _,_,.nil,_=>.nil
 | _,_,.cons r t,f=>.cons (f _ _ r) (Paired.mapP t f)
theorem bV.stay(x:bV P w H h a o)(k:∀ b u,(b=a\/H b=some (.own a))->h.get? b=some u->h'.get? b=some u)
  (ho:∀ b,H b=some (.own a)->H' b=some (.own a)) (ht:∀ b xs,H b=some (.tup xs)->H' b=some (.tup xs)):bV P w H' h' a o:=by
 induction o with
 | lst xs=>obtain⟨z,its,n,r,e⟩:=x;exact⟨z,its,n,r,k _ _ (.inl rfl) e⟩
 | tup xs=>obtain⟨z,its,r,ob,e,c⟩:=x;exact⟨z,its,r,ob,k _ _ (.inl rfl) e,c⟩
 | dK kvs=>obtain⟨z,y,vs,r,ob,es,ep,e,c⟩:=x;exact⟨z,y,vs,r,ob,es,ep,k _ _ (.inl rfl) e,c⟩
 | dT kvs=>
  obtain⟨z,y,xs,r,ob,es,ep,e,c⟩:=x;exact⟨z,y,xs,Paired.mapP r λ p q z=>⟨z.1,ht _ _ z.2.1,z.2.2⟩,ob,es,ep,k _ _ (.inl rfl) e,c⟩
 | set S n=>obtain⟨ob,es,ep,t,e,c⟩:=x;exact⟨ob,es,ep,t,k _ _ (.inl rfl) e,c⟩
 | ins C dx fs=>
  obtain⟨d,z,ne,e,mA,⟨od,es,ep,e2,c⟩,r⟩:=x;exact⟨ho _ d,z,ne,k _ _ (.inl rfl) e,mA,⟨od,es,ep,k _ _ (.inr d) e2,c⟩,r⟩
 | own y=>obtain⟨ob,e⟩:=x;exact⟨ob,k _ _ (.inl rfl) e⟩
 | xd fs=>obtain⟨mA,⟨od,es,ep,e,c⟩,r⟩:=x;exact⟨mA,⟨od,es,ep,k _ _ (.inl rfl) e,c⟩,r⟩
 | rng lo hi=>obtain⟨t,u,v,e⟩:=x;exact⟨t,u,v,k _ _ (.inl rfl) e⟩
 | frz ob u ih=>obtain⟨e,q⟩:=x;exact⟨k _ _ (.inl rfl) e,ih q⟩
 | tbl ps=>
  have e:h.get? a=some { cls:=.none,data:=.fields ps }:=x
  show h'.get? a=some { cls:=.none,data:=.fields ps }
  exact k a _ (.inl rfl) e
 | met f y=>
  have e:h.get? a=some (W.methodObj (.ref f) (.ref y)):=x
  show h'.get? a=some (W.methodObj (.ref f) (.ref y))
  exact k a _ (.inl rfl) e
 | ext φ=>obtain⟨p,⟨o,e⟩,st⟩:=x;exact⟨st _ _ p λ o q=>k _ _ (.inl rfl) q,⟨o,k _ _ (.inl rfl) e⟩,st⟩
theorem HOk.lt(x:HOk P w H h)(e:H a=some o):a < h.objs.size:=(x a o e).lt
theorem HOk.fresh(x:HOk P w H h)(e:h.objs.size<=a):H a=none:=by
 cases q:H a with
 | none=>rfl
 | some u=>exact absurd (Le (x.lt q) e) (Mt _)
theorem HOk.kept(x:HOk P w H h)(k:∀ b u,h.get? b=some u->h'.get? b=some u):HOk P w H h':=λ a o e=>
 (x a o e).stay (λ b u _ q=>k b u q) (λ _ q=>q) λ _ _ q=>q
theorem HOk.laid(x:HOk P w H h)(k:∀ b u,h.get? b=some u->h'.get? b=some u)(hp:h.objs.size<=a)(new:bV P w (upd H a o) h' a o):HOk P w (upd H a o) h':=λ b u e=>by
 have hn:=x.fresh hp
 by_cases hb:b=a
 ·subst hb;rw [ah] at e;cases e;exact new
 ·rw [ae hb] at e;exact(x b u e).stay (λ c v _ q=>k c v q) (λ c q=>by rw [ae (bI q hn)];exact q) λ c xs q=>by rw [ae (bI q hn)];exact q
end
def Rd(H:Hp)(a:Addr)(u:HO):Prop:=H a=some u\/∃ o,H a=some (.frz o u)
theorem Rd.ok{P:Program}{w:World}{H:Hp}{h:Heap}{a:Addr}{u:HO}(r:Rd H a u)(x:HOk P w H h):bV P w H h a u:=by
 rcases r with r|⟨o,r⟩
 ·exact x a u r
 ·obtain⟨_,q⟩:=x a _ r;exact q
def Mut:Option HO->Prop
 | some (.lst _)=>True
 | some (.dK _)=>True
 | some (.dT _)=>True
 | some (.set _ _)=>True
 | some (.ins _ _ _)=>True
 | some (.ext _)=>True
 | _=>False
section
variable {P:Program}{w:World}{H:Hp}{h h':Heap}{x e:Addr}{o':HO}
theorem HOk.write(ok:HOk P w H h)(mu:Mut (H x))(he:e=x\/H e=some (.own x))(k:∀ b u,b ≠ e->h.get? b=some u->h'.get? b=some u)(heo:∃ u,h'.get? e=some u)
  (new:bV P w (upd H x o') h' x o'):HOk P w (upd H x o') h':=λ b u q=>by
 have nown:∀ c y,H c=some (.own y)->c ≠ x:=λ c y r z=>by subst z;rw [r] at mu;exact mu
 have ntup:∀ c xs,H c=some (.tup xs)->c ≠ x:=λ c xs r z=>by subst z;rw [r] at mu;exact mu
 by_cases hb:b=x
 ·subst hb;rw [ah] at q;cases q;exact new
 ·rw [ae hb] at q
  by_cases hbe:b=e
  ·have q':H b=some (.own x):=by
    rcases he with z|z
    ·exact absurd (hbe.trans z) hb
    ·rw [hbe];exact z
   rw [q] at q';cases q';obtain⟨v,hv⟩:=heo;exact⟨v,by rw [hbe];exact hv⟩
  ·refine(ok b u q).stay (λ c v hc r=>k c v ?_ r) (λ c r=>by rw [ae (nown c b r)];exact r) λ c xs r=>by rw [ae (ntup c xs r)];exact r
   rcases hc with rfl|hc
   ·exact hbe
   ·rintro rfl
    rcases he with z|z
    ·exact nown c b hc z
    ·rw [hc] at z;cases z;exact hb rfl
end
structure Un(fs ex:List Addr)(H H':Hp)(h h':Heap):Prop where
 keep:∀ b o,h.get? b=some o->H b=none->b ∉ fs->b ∉ ex->h'.get? b=some o
 slot:∀ b o,h.get? b=some o->H b=none->b∈fs->b ∉ ex->∃ sl,h'.get? b=some { o with slots:=sl }
 free:∀ b o,h.get? b=some o->H b=none->b ∉ ex->H' b=none
 there:∀ b o,h.get? b=some o->b ∉ ex->∃ o',h'.get? b=some o'
 tups:∀ b xs,H b=some (.tup xs)->H' b=some (.tup xs)
 frzs:∀ b o u,H b=some (.frz o u)->H' b=some (.frz o u)
 tbls:∀ b ps,H b=some (.tbl ps)->∃ more,H' b=some (.tbl (ps++more))
section
variable {fs fs' ex ex':List Addr}{H H1 H2:Hp}{h h1 h2 h':Heap}{a x e:Addr}{o:HO}
theorem Un.any(u:Un fs ex H H1 h h1){b:Addr}{ob:Obj}(q:h.get? b=some ob)(n:H b=none)(hx:b ∉ ex):∃ sl,h1.get? b=some { ob with slots:=sl }:=by
 by_cases hb:b∈fs
 ·exact u.slot b ob q n hb hx
 ·exact⟨ob.slots,u.keep b ob q n hb hx⟩
theorem Un.trans(a:Un fs ex H H1 h h1)(b:Un fs ex H1 H2 h1 h2):Un fs ex H H2 h h2 where
 keep:=λ c ob q n hc hx=>b.keep c ob (a.keep c ob q n hc hx) (a.free c ob q n hx) hc hx
 slot:=λ c ob q n hc hx=>by
  obtain⟨sl,e1⟩:=a.slot c ob q n hc hx;obtain⟨sl',e2⟩:=b.slot c _ e1 (a.free c ob q n hx) hc hx;exact⟨sl',e2⟩
 free:=λ c ob q n hx=>by
  obtain⟨o',e1⟩:=a.there c ob q hx;exact b.free c o' e1 (a.free c ob q n hx) hx
 there:=λ c ob q hx=>by
  obtain⟨o',e1⟩:=a.there c ob q hx;exact b.there c o' e1 hx
 tups:=λ c xs q=>b.tups c xs (a.tups c xs q)
 frzs:=λ c ob xs q=>b.frzs c ob xs (a.frzs c ob xs q)
 tbls:=λ c ps q=>by
  obtain⟨m1,e1⟩:=a.tbls c ps q;obtain⟨m2,e2⟩:=b.tbls c _ e1;exact⟨m1++m2,by rw [e2,Array.append_assoc]⟩
theorem Un.kept(k:∀ b u,h.get? b=some u->h'.get? b=some u):Un fs ex H H h h':=
 ⟨λ b ob q _ _ _=>k b ob q,λ b ob q _ _ _=>⟨ob.slots,k b ob q⟩,λ _ _ _ n _=>n,λ b ob q _=>⟨ob,k b ob q⟩,λ _ _ q=>q,λ _ _ _ q=>q,λ _ ps q=>⟨#[],by rw [q];simp⟩⟩
theorem Un.refl:Un fs ex H H h h:=Un.kept λ _ _ q=>q
theorem Un.laid(k:∀ b u,h.get? b=some u->h'.get? b=some u)(hp:h.objs.size<=a)(hn:H a=none):Un fs ex H (upd H a o) h h' where
 keep:=λ b u q _ _ _=>k b u q
 slot:=λ b u q _ _ _=>⟨u.slots,k b u q⟩
 free:=λ b u q n _=>by rw [ae (Lf (Le (K6 q) hp))];exact n
 there:=λ b u q _=>⟨u,k b u q⟩
 tups:=λ b xs q=>by rw [ae (bI q hn)];exact q
 frzs:=λ b u xs q=>by rw [ae (bI q hn)];exact q
 tbls:=λ b ps q=>⟨#[],by rw [ae (bI q hn),q];simp⟩
theorem Un.write(mu:Mut (H x))(he:e=x\/H e=some (.own x))(k:∀ b u,b ≠ e->h.get? b=some u->h'.get? b=some u)(heo:∃ u,h'.get? e=some u):Un fs ex H (upd H x o) h h':=by
 have hx:∀ b,H b=none->b ≠ x:=λ b n z=>by subst z;rw [n] at mu;exact mu
 have hb:∀ b,H b=none->b ≠ e:=λ b n z=>by
  subst z
  rcases he with r|r
  ·exact hx b n r
  ·rw [n] at r;cases r
 have hm:∀ b u,H b=some u->¬ Mut (some u)->b ≠ x:=λ b u q nm z=>by subst z;rw [q] at mu;exact nm mu
 refine⟨λ b u q n _ _=>k b u (hb b n) q,λ b u q n _ _=>⟨u.slots,k b u (hb b n) q⟩,λ b u q n _=>by rw [ae (hx b n)];exact n,λ b u q _=>?_,
  λ b xs q=>by rw [ae (hm b _ q λ z=>z)];exact q,λ b u xs q=>by rw [ae (hm b _ q λ z=>z)];exact q,λ b ps q=>⟨#[],by rw [ae (hm b _ q λ z=>z),q];simp⟩⟩
 by_cases hbe:b=e
 ·subst hbe;exact heo
 ·exact⟨u,k b u hbe q⟩
end
def trk(h:Heap)(H:Hp):List Addr:=(List.range h.objs.size).filter λ a=>(H a).isSome
def xw(h:Heap)(H:Hp):Heap:=W.hideAll h (trk h H)
theorem wU(h:Heap)(H:Hp):(xw h H).objs.size=h.objs.size:=W.hideAll_size _ _
theorem zc{h:Heap}{H:Hp}{b:Addr}{o:Obj}(e:h.get? b=some o)(n:H b=none):(xw h H).get? b=some o:=
 W.hideAll_get _ e λ hm=>by
  have q:(H b).isSome=true:=(Ml.mp hm).2;rw [n] at q;simp at q
theorem BY{h:Heap}{H:Hp}{b:Addr}{o:Obj}(e:(xw h H).get? b=some o):h.get? b=some o/\H b=none:=by
 have e':h.get? b=some o:=W.of_hideAll (trk h H) e;refine⟨e',?_⟩
 cases q:H b with
 | none=>rfl
 | some x=>
  have hm:b∈trk h H:=Ml.mpr ⟨MF.mpr (K6 e'),by simp [q]⟩;have z:(xw h H).get? b=none:=W.hideAll_none (trk h H) hm;rw [z] at e;cases e
def DC(g h:Heap)(L:Addr):List (Addr × Obj):=(List.range h.objs.size).filterMap λ a=>if a=L\/(g.get? a).isSome=true then none else (h.get? a).map λ o=>(a,o)
def rest(g h:Heap)(L d:Addr):List (Addr × Obj):=(DC g h L).filter λ p=>decide (p.1 ≠ d)
structure Mod(K:W.Frag)(mg:Str->Option Value)(base:Heap):Prop where
 kin:K.In base
 glob:base.Ns mainGlobals mg
 blt:∃ mb,base.Ns builtinsNs mb/\∀ x:Str,x ≠ "__name__" → mb x=bootBuiltins x
 nolimit:base.NoLimit
structure Cx where
 prog:Program
 w:World
 K:W.Frag
 mg:Str->Option Value
 base:Heap
 A:Around
 N:List Str
 s₀:Shared
 H₀:Hp
 env:Env
 outer:List Env
 stack:List Env
 ex:List Addr
 fn:Str->Bool
 calm:Bool
 pn:List (Addr × Obj)
 xe:Value->Shared->Prop
def frs(l:List Env):List Addr:=l.filterMap (·.frame)
abbrev Cx.fs(X:Cx):List Addr:=frs X.outer
def Vis(sc:Scope)(x:Str):Prop:=sc.names.lookup x=some .local\/sc.names.lookup x=some .cell\/sc.names.lookup x=some .free
def Loc(sc:Scope)(x:Str):Prop:=sc.names.lookup x=some .local\/sc.names.lookup x=some .cell
def KN(env:Env)(h:Heap)(m:Str->Option Value)(x:Str)(u:Value):Prop:=
 (env.kindOf x=some .local/\m x=some u)\/((env.kindOf x=some .cell\/env.kindOf x=some .free)/\∃ c,env.cells.lookup x=some c/\h.IsCell c (some u))
structure Cx.Ok(X:Cx):Prop where
 mod:Mod X.K X.mg X.base
 kind:X.env.scope.kind=.function
 glob:X.env.globals=mainGlobals
 blt:X.env.builtins=builtinsNs
 above:X.s₀.heap.objs.size<=X.env.locals
 inj:∀ x y c,X.env.cells.lookup x=some c->X.env.cells.lookup y=some c->x=y
 has:∀ x,(X.env.kindOf x=some .cell\/X.env.kindOf x=some .free)->∃ c,X.env.cells.lookup x=some c
 cab:∀ x c,X.fn x=true->X.env.cells.lookup x=some c->X.s₀.heap.objs.size<=c
 hd:X.calm=true->X.A.handled=none
 frames:X.A.frames=some X.stack
 stk:X.stack=X.outer\/(X.stack=X.env::X.outer/\X.env.frame=some X.env.locals)
 exf:∀ b∈X.ex,b ≠ X.env.locals/\∀ x c,X.env.cells.lookup x=some c->c ≠ b
 bs:∀ b o,X.base.get? b=some o->X.s₀.heap.get? b=some o/\X.H₀ b=none
 bsz:X.base.objs.size<=X.s₀.heap.objs.size
 noex:∀ b o,X.base.get? b=some o->b ∉ X.ex
 exfs:∀ b∈X.ex,b ∉ X.fs
 funs:X.s₀.heap.FunFrames X.base X.outer
 frf:∀ b∈X.fs,X.H₀ b=none
structure Inv(X:Cx)(pins:List (Addr × Obj))(σ:List (Option V))(H:Hp)(s:Shared):Prop where
 ok:X.Ok
 os:s.os=X.s₀.os
 bare:AllBare s.gens
 base:Un X.fs X.ex X.H₀ H X.s₀.heap s.heap
 loc:∃ m,s.heap.Ns X.env.locals m/\∀ (i:Nat) (x:Str) (v:V),X.N[i]? = some x->σ[i]? = some (some v)->Vis X.env.scope x->∃ u,bp v u/\KN X.env s.heap m x u
 cell:∀ x c,X.env.cells.lookup x=some c->∃ v,s.heap.IsCell c v
 free:H X.env.locals=none
 freeC:∀ x c,X.env.cells.lookup x=some c->H c=none
 pin:∀ p∈X.pn++pins,s.heap.get? p.1=some p.2/\H p.1=none/\p.1 ≠ X.env.locals/\p.1 ∉ X.fs/\∀ v,p.2.data ≠ .cell v
 hok:HOk X.prog X.w H s.heap
 len:σ.length=X.N.length
section
variable {X:Cx}{pins:List (Addr × Obj)}{σ:List (Option V)}{H H':Hp}{s:Shared}{h':Heap}
theorem Cx.Ok.nofr(ok:X.Ok){b:Addr}{o:Obj}(e:X.base.get? b=some o):b ∉ X.fs:=λ hb=>by
 have:=(ok.funs.mem hb).1;rw [e] at this;cases this
theorem Inv.bs(I:Inv X pins σ H s):∀ b o,X.base.get? b=some o->s.heap.get? b=some o/\H b=none:=λ b o e=>
 ⟨I.base.keep b o (I.ok.bs b o e).1 (I.ok.bs b o e).2 (I.ok.nofr e) (I.ok.noex b o e),I.base.free b o (I.ok.bs b o e).1 (I.ok.bs b o e).2 (I.ok.noex b o e)⟩
theorem Inv.bk(I:Inv X pins σ H s):∀ b o,X.base.get? b=some o->s.heap.get? b=some o:=λ b o e=>(I.bs b o e).1
theorem Inv.mod(I:Inv X pins σ H s):Mod X.K X.mg X.base:=I.ok.mod
theorem Inv.kIn(I:Inv X pins σ H s):X.K.In s.heap:=I.ok.mod.kin.keeps I.bk
theorem Inv.lt(I:Inv X pins σ H s):X.env.locals < s.heap.objs.size:=let ⟨_,hn,_⟩:=I.loc;hn.lt
theorem Inv.sz(I:Inv X pins σ H s):X.s₀.heap.objs.size<=s.heap.objs.size:=LU I.ok.above (M7 I.lt)
theorem Inv.nofs(I:Inv X pins σ H s){a:Addr}(h:s.heap.objs.size<=a):a ∉ X.fs:=λ hb=>by
 obtain⟨_,o,ho,_⟩:=I.ok.funs.mem hb;exact absurd (Le (K6 ho) (LU I.sz h)) (Mt _)
theorem Inv.cne(I:Inv X pins σ H s):∀ x c,X.env.cells.lookup x=some c->c ≠ X.env.locals:=λ x c e z=>by
 obtain⟨v,o,ho,hd⟩:=I.cell x c e;obtain⟨m,⟨o',es,ep,ho',hd',_⟩,_⟩:=I.loc;rw [z,ho'] at ho;cases ho;rw [hd'] at hd;cases hd
theorem Inv.funs(I:Inv X pins σ H s):s.heap.FunFrames X.base X.outer:=by
 have all:∀ (l:List Env),(∀ b∈frs l,b∈X.fs)->X.s₀.heap.FunFrames X.base l->s.heap.FunFrames X.base l:=by
  intro l
  induction l with
  | nil=>intro _ _;trivial
  | cons env r ih=>
   intro hs hl;obtain⟨hk,⟨L,o,hf,hn,ho,hd⟩,hr⟩:=hl;have hL:L∈X.fs:=hs L (by unfold frs;rw [List.filterMap_cons,hf];exact mem_cons_self);obtain⟨sl,e⟩:=I.base.slot L o ho (I.ok.frf L hL) hL λ z=>I.ok.exfs L z hL;exact⟨hk,⟨L,_,hf,hn,e,hd⟩,ih (λ b hb=>hs b (by unfold frs;rw [List.filterMap_cons,hf];exact mem_cons_of_mem _ hb)) hr⟩
 exact all X.outer (λ _ hb=>hb) I.ok.funs
theorem Inv.stack(I:Inv X pins σ H s):s.heap.FunFrames X.base X.stack:=by
 rcases I.ok.stk with e|⟨e,hf⟩
 ·rw [e];exact I.funs
 ·rw [e];obtain⟨m,hn,_⟩:=I.loc;refine .cons (by rw [I.ok.kind];decide) hf hn ?_ I.funs;exact Heap.get?_none_of_le (LU I.ok.bsz I.ok.above)
theorem Inv.stkSub(I:Inv X pins σ H s):∀ b∈frs X.stack,b∈X.env.locals::X.fs:=λ b hb=>by
 rcases I.ok.stk with e|⟨e,hf⟩
 ·rw [e] at hb;exact KZ _ hb
 ·rw [e] at hb;unfold frs at hb;rw [List.filterMap_cons,hf] at hb;exact hb
theorem Inv.stkFree(I:Inv X pins σ H s):∀ b∈frs X.stack,H b=none:=λ b hb=>by
 rcases Ls.mp (I.stkSub b hb) with e|hb
 ·rw [e];exact I.free
 ·obtain⟨_,o,ho,_⟩:=I.ok.funs.mem hb;exact I.base.free b o ho (I.ok.frf b hb) λ z=>I.ok.exfs b z hb
theorem Inv.step{g':Array GenState}{t':Nat}{d':Drawn}{ch:List Addr}(I:Inv X pins σ H s)
  (hch:∀ b∈ch,(b∈X.ex\/X.s₀.heap.objs.size<=b)/\b ≠ X.env.locals/\(∀ x c,X.env.cells.lookup x=some c->c ≠ b)/\∀ p∈X.pn++pins,p.1 ≠ b)
  (keep:∀ b o,b ≠ X.env.locals->b ∉ X.fs->b ∉ ch->s.heap.get? b=some o->H b=none->h'.get? b=some o)
  (slot:∀ b o,b ≠ X.env.locals->b∈X.fs->b ∉ ch->s.heap.get? b=some o->H b=none->∃ sl,h'.get? b=some { o with slots:=sl }) (free:∀ b o,b ∉ ch->s.heap.get? b=some o->H b=none->H' b=none)
  (there:∀ b o,b ∉ ch->s.heap.get? b=some o->∃ o',h'.get? b=some o')
  (tups:∀ b xs,H b=some (.tup xs)->H' b=some (.tup xs)) (frzs:∀ b o u,H b=some (.frz o u)->H' b=some (.frz o u)) (tbls:∀ b ps,H b=some (.tbl ps)->∃ more,H' b=some (.tbl (ps++more)))
  (ns:∀ m,s.heap.Ns X.env.locals m->h'.Ns X.env.locals m) (hok:HOk X.prog X.w H' h') (hg:AllBare g') :
  Inv X pins σ H' { s with heap:=h',gens:=g',drawn:=d',toks:=t' }:=by
 have neL:∀ b o,X.s₀.heap.get? b=some o->b ≠ X.env.locals:=λ b o e=>Lf (Le (K6 e) I.ok.above)
 have neC:∀ b o,X.s₀.heap.get? b=some o->b ∉ X.ex->b ∉ ch:=λ b o e hx hb=>by
  rcases (hch b hb).1 with z|z
  ·exact hx z
  ·exact absurd (Le (K6 e) z) (Mt _)
 have cellK:∀ x c,X.env.cells.lookup x=some c->∀ v,s.heap.IsCell c v->h'.IsCell c v:=λ x c e v ⟨o,ho,hd⟩=>by
  have nch:c ∉ ch:=λ z=>(hch c z).2.2.1 x c e rfl
  by_cases hc:c∈X.fs
  ·obtain⟨sl,q⟩:=slot c o (I.cne x c e) hc nch ho (I.freeC x c e);exact⟨_,q,hd⟩
  ·exact⟨o,keep c o (I.cne x c e) hc nch ho (I.freeC x c e),hd⟩
 refine⟨I.ok,I.os,hg,⟨λ b o e n hb hx=>?_,λ b o e n hb hx=>?_,λ b o e n hx=>?_,λ b o e hx=>?_,λ b xs e=>tups b xs (I.base.tups b xs e),λ b o xs e=>frzs b o xs (I.base.frzs b o xs e),λ b ps e=>?_⟩,?_,λ x c e=>?_,?_,λ x c e=>?_,λ p hp=>?_,hok,I.len⟩
 ·exact keep b o (neL b o e) hb (neC b o e hx) (I.base.keep b o e n hb hx) (I.base.free b o e n hx)
 ·obtain⟨sl,e1⟩:=I.base.slot b o e n hb hx;obtain⟨sl',e2⟩:=slot b _ (neL b o e) hb (neC b o e hx) e1 (I.base.free b o e n hx);exact⟨sl',e2⟩
 ·obtain⟨o',e1⟩:=I.base.there b o e hx;exact free b o' (neC b o e hx) e1 (I.base.free b o e n hx)
 ·obtain⟨o',e1⟩:=I.base.there b o e hx;exact there b o' (neC b o e hx) e1
 ·obtain⟨m1,e1⟩:=I.base.tbls b ps e;obtain⟨m2,e2⟩:=tbls b _ e1;exact⟨m1++m2,by rw [e2,Array.append_assoc]⟩
 ·obtain⟨m,hn,hl⟩:=I.loc;refine⟨m,ns m hn,λ i x v e1 e2 e3=>?_⟩;obtain⟨u,r,l⟩:=hl i x v e1 e2 e3;refine⟨u,r,?_⟩
  rcases l with l|⟨k,c,e,z⟩
  ·exact .inl l
  ·exact .inr ⟨k,c,e,cellK x c e _ z⟩
 ·obtain⟨v,z⟩:=I.cell x c e;exact⟨v,cellK x c e v z⟩
 ·obtain⟨m,⟨o,_,_,ho,_⟩,_⟩:=I.loc;exact free _ o (λ z=>(hch _ z).2.1 rfl) ho I.free
 ·obtain⟨v,o,ho,hd⟩:=I.cell x c e;exact free c o (λ z=>(hch c z).2.2.1 x c e rfl) ho (I.freeC x c e)
 ·obtain⟨e,n,ne,nf,d⟩:=I.pin p hp;have nch:p.1 ∉ ch:=λ z=>(hch p.1 z).2.2.2 p hp rfl;exact⟨keep p.1 p.2 ne nf nch e n,free p.1 p.2 nch e n,ne,nf,d⟩
theorem Inv.un{t':Nat}(I:Inv X pins σ H s)(u:Un X.fs [] H H' s.heap h')(hok:HOk X.prog X.w H' h'):Inv X pins σ H' { s with heap:=h',toks:=t' }:=by
 obtain⟨m,⟨o,es,ep,ho,r⟩,_⟩:=id I.loc;obtain⟨sl,hL⟩:=u.any ho I.free (by simp)
 exact I.step (g':=s.gens) (d':=s.drawn) (ch:=[]) (λ _ z=>nomatch z) (λ b o _ hb _ e n=>u.keep b o e n hb (by simp)) (λ b o _ hb _ e n=>u.slot b o e n hb (by simp)) (λ b o _ e n=>u.free b o e n (by simp)) (λ b o _ e=>u.there b o e (by simp)) u.tups u.frzs u.tbls (λ m' hm=>by
  obtain⟨o',es',ep',ho',r'⟩:=hm;rw [ho] at ho';cases ho';exact⟨_,es',ep',hL,r'⟩) hok I.bare
theorem Inv.call{g':Array GenState}{t':Nat}{d':Drawn}{ch:List Addr}(I:Inv X pins σ H s)(u:Un (frs X.stack) ch H H' s.heap h')(hok:HOk X.prog X.w H' h')(hg:AllBare g')
  (hch:∀ b∈ch,(b∈X.ex\/X.s₀.heap.objs.size<=b)/\b ≠ X.env.locals/\(∀ x c,X.env.cells.lookup x=some c->c ≠ b)/\∀ p∈X.pn++pins,p.1 ≠ b) :
  Inv X pins σ H' { s with heap:=h',gens:=g',drawn:=d',toks:=t' }:=by
 obtain⟨m,⟨o,es,ep,ho,r⟩,_⟩:=id I.loc;obtain⟨sl,hL⟩:=u.any ho I.free λ z=>(hch _ z).2.1 rfl
 exact I.step (ch:=ch) hch (λ b o hL hb hc e n=>u.keep b o e n (λ z=>(Ls.mp (I.stkSub b z)).elim hL hb) hc) (λ b o _ _ hc e n=>u.any e n hc) (λ b o hc e n=>u.free b o e n hc) (λ b o hc e=>u.there b o e hc) u.tups u.frzs u.tbls (λ m' hm=>by
  obtain⟨o',es',ep',ho',r'⟩:=hm;rw [ho] at ho';cases ho';exact⟨_,es',ep',hL,r'⟩) hok hg
theorem Inv.turned{t':Nat}{it:Addr}(I:Inv X pins σ H s)(k:∀ b o,b ≠ it->s.heap.get? b=some o->h'.get? b=some o)(hn:H it=none)(hL:it ≠ X.env.locals)
  (h1:it∈X.ex\/X.s₀.heap.objs.size<=it) (h2:∀ x c,X.env.cells.lookup x=some c->c ≠ it) (h3:∀ p∈X.pn++pins,p.1 ≠ it):Inv X pins σ H { s with heap:=h',toks:=t' }:=by
 have nit:∀ b u,H b=some u->b ≠ it:=λ b u e z=>by rw [z,hn] at e;cases e
 refine I.step (g':=s.gens) (d':=s.drawn) (ch:=[it]) (λ b hb=>?_) (λ b o _ _ hc e _=>k b o (λ z=>hc (by simp [z])) e) (λ b o _ _ hc e _=>⟨o.slots,k b o (λ z=>hc (by simp [z])) e⟩) (λ _ _ _ _ n=>n)
  (λ b o hc e=>⟨o,k b o (λ z=>hc (by simp [z])) e⟩) (λ _ _ e=>e) (λ _ _ _ e=>e) (λ b ps e=>⟨#[],by rw [e];simp⟩) (λ m hm=>?_) (λ b u e=>?_) I.bare
 ·have e:b=it:=by simpa using hb
  subst e;exact⟨h1,hL,h2,h3⟩
 ·obtain⟨o,es,ep,ho,r⟩:=hm;exact⟨o,es,ep,k _ o (Lw hL) ho,r⟩
 ·refine(I.hok b u e).stay (λ c v hc q=>k c v ?_ q) (λ _ q=>q) λ _ _ q=>q
  rcases hc with z|z
  ·rw [z];exact nit b u e
  ·exact nit c _ z
theorem Inv.tok(I:Inv X pins σ H s)(t:Nat):Inv X pins σ H { s with toks:=t }:=I.un (h':=s.heap) (t':=t) Un.refl I.hok
theorem Inv.kept{t':Nat}(I:Inv X pins σ H s)(k:∀ b u,s.heap.get? b=some u->h'.get? b=some u):Inv X pins σ H { s with heap:=h',toks:=t' }:=I.un (Un.kept k) (I.hok.kept k)
theorem Inv.laid{a:Addr}{o:HO}{t':Nat}(I:Inv X pins σ H s)(k:∀ b u,s.heap.get? b=some u->h'.get? b=some u)(hp:s.heap.objs.size<=a)(new:bV X.prog X.w (upd H a o) h' a o) :
  Inv X pins σ (upd H a o) { s with heap:=h',toks:=t' }:=I.un (Un.laid k hp (I.hok.fresh hp)) (I.hok.laid k hp new)
theorem Inv.write{x e:Addr}{o:HO}{t':Nat}(I:Inv X pins σ H s)(mu:Mut (H x))(he:e=x\/H e=some (.own x))(k:∀ b u,b ≠ e->s.heap.get? b=some u->h'.get? b=some u)(heo:∃ u,h'.get? e=some u)
  (new:bV X.prog X.w (upd H x o) h' x o):Inv X pins σ (upd H x o) { s with heap:=h',toks:=t' }:=I.un (Un.write mu he k heo) (I.hok.write mu he k heo new)
theorem Inv.weak{σ':List (Option V)}(I:Inv X pins σ H s)(hl:σ'.length=σ.length)(w:∀ (i:Nat) v,σ'[i]? = some (some v)->σ[i]? = some (some v)):Inv X pins σ' H s:=
 ⟨I.ok,I.os,I.bare,I.base,let ⟨m,hn,hl'⟩:=I.loc;⟨m,hn,λ i x v e1 e2 e3=>hl' i x v e1 (w i v e2) e3⟩,I.cell,I.free,I.freeC,I.pin,I.hok,hl.trans I.len⟩
theorem Inv.pins_of{pins':List (Addr × Obj)}(I:Inv X pins σ H s)(h:∀ p∈pins',s.heap.get? p.1=some p.2/\H p.1=none/\p.1 ≠ X.env.locals/\p.1 ∉ X.fs/\∀ v,p.2.data ≠ .cell v):Inv X pins' σ H s:=
 ⟨I.ok,I.os,I.bare,I.base,I.loc,I.cell,I.free,I.freeC,λ p hp=>(Lu.mp hp).elim (λ z=>I.pin p (L5 _ z)) (h p),I.hok,I.len⟩
theorem p0{N:List Str}(hN:N.Nodup){i j:Nat}{x:Str}(a:N[i]? = some x)(b:N[j]? = some x):i=j:=by
 obtain⟨h1,e1⟩:=K0.mp a;obtain⟨h2,e2⟩:=K0.mp b;exact(List.getElem_inj hN).mp (e1.trans e2.symm)
theorem lW{M:Model}{A:Around}{E:Value->Shared->Prop}{i:Nat}{x:Str}{v:V}{u:Value}{Q:Unit->Shared->Prop}(I:Inv X pins σ H s)(hN:X.N.Nodup)(hi:X.N[i]? = some x)(hx:Loc X.env.scope x)(r:bp v u)
  (h:∀ s',Inv X pins (σ.set i (some v)) H s'->(∃ a,Heap.SameBut a s.heap s'.heap/\(a=X.env.locals\/X.env.cells.lookup x=some a))->Q () s') (hf:X.fn x=true\/X.env.scope.names.lookup x=some .local:=by first|exact .inl rfl|exact .inr rfl|assumption):wpAny M A (storeName X.env x u) Q E s:=by
 obtain⟨m,hn,hl⟩:=id I.loc;have hcls:(X.env.scope.kind == .class || (X.env.scope.kind == .module && X.env.locals != X.env.globals))=false:=by rw [I.ok.kind];rfl
 have hiσ:i < σ.length:=by rw [I.len];exact(K0.mp hi).1
 have cne:=I.cne
 have tracked:∀ {a:Addr} {h':Heap},(∃ o,s.heap.get? a=some o/\H a=none)->Heap.SameBut a s.heap h'->HOk X.prog X.w H h':=λ {a h'} ha hs b ob e=>by
  obtain⟨_,_,hfree⟩:=ha;refine(I.hok b ob e).stay (λ c w' hc q=>(hs.2 c ?_).trans q) (λ _ q=>q) λ _ _ q=>q;rintro rfl
  rcases hc with rfl|hc
  ·rw [hfree] at e;cases e
  ·rw [hfree] at hc;cases hc
 rcases hx with hk|hk
 ·refine wpAny_storeName_local hk hn (λ h' hn' hs=>?_) hcls;obtain⟨oL,_,_,hoL,_⟩:=id hn;refine h _ ⟨I.ok,I.os,I.bare,⟨λ b o e n hb hx=>?_,λ b o e n hb hx=>?_,I.base.free,λ b o e hx=>?_,I.base.tups,I.base.frzs,I.base.tbls⟩,⟨_,hn',λ j y v' e1 e2 e3=>?_⟩,λ y c e=>?_,I.free,I.freeC,λ p hp=>?_,tracked ⟨oL,hoL,I.free⟩ hs,by simpa using I.len⟩ ⟨_,hs,.inl rfl⟩
  ·exact(hs.2 b (Lf (Le (K6 e) I.ok.above))).trans (I.base.keep b o e n hb hx)
  ·obtain⟨sl,e1⟩:=I.base.slot b o e n hb hx;exact⟨sl,(hs.2 b (Lf (Le (K6 e) I.ok.above))).trans e1⟩
  ·obtain⟨o',e1⟩:=I.base.there b o e hx;exact⟨o',(hs.2 b (Lf (Le (K6 e) I.ok.above))).trans e1⟩
  ·by_cases hj:j=i
   ·subst hj;rw [hi] at e1;cases e1;rw [List.getElem?_set_self hiσ] at e2;cases e2;exact⟨u,r,.inl ⟨hk,by simp⟩⟩
   ·rw [List.getElem?_set_ne (Lw hj)] at e2;obtain⟨u',r',q⟩:=hl j y v' e1 e2 e3;refine⟨u',r',?_⟩
    rcases q with ⟨k,e⟩|⟨k,c,e,z⟩
    ·refine .inl ⟨k,?_⟩;have:y ≠ x:=λ e=>hj (p0 hN e1 (e ▸ hi));simp [this,e]
    ·exact .inr ⟨k,c,e,z.sameBut hs (cne y c e)⟩
  ·obtain⟨w',z⟩:=I.cell y c e;exact⟨w',z.sameBut hs (cne y c e)⟩
  ·obtain⟨e,n,ne,nf,d⟩:=I.pin p hp;exact⟨(hs.2 p.1 ne).trans e,n,ne,nf,d⟩
 ·have hfn:X.fn x=true:=by
   rcases hf with z|z
   ·exact z
   ·rw [z] at hk;cases hk
  obtain⟨c,hc⟩:=I.ok.has x (.inl hk);obtain⟨w',z⟩:=I.cell x c hc;refine wpAny_storeName_cell I.ok.kind hk hc z (λ h' hc' hs=>?_);obtain⟨oc,hoc,hocd⟩:=id z;refine h { s with heap:=h' } ⟨I.ok,I.os,I.bare,⟨λ b o e n hb hx=>?_,λ b o e n hb hx=>?_,I.base.free,λ b o e hx=>?_,I.base.tups,I.base.frzs,I.base.tbls⟩,⟨m,hn.sameBut hs (Lw (cne x c hc)),λ j y v' e1 e2 e3=>?_⟩,λ y c' e=>?_,I.free,I.freeC,λ p hp=>?_,tracked ⟨oc,hoc,I.freeC x c hc⟩ hs,by simpa using I.len⟩ ⟨c,hs,.inr hc⟩
  ·exact(hs.2 b (Lf (Le (K6 e) (I.ok.cab x c hfn hc)))).trans (I.base.keep b o e n hb hx)
  ·obtain⟨sl,e1⟩:=I.base.slot b o e n hb hx;exact⟨sl,(hs.2 b (Lf (Le (K6 e) (I.ok.cab x c hfn hc)))).trans e1⟩
  ·obtain⟨o',e1⟩:=I.base.there b o e hx;exact⟨o',(hs.2 b (Lf (Le (K6 e) (I.ok.cab x c hfn hc)))).trans e1⟩
  ·by_cases hj:j=i
   ·subst hj;rw [hi] at e1;cases e1;rw [List.getElem?_set_self hiσ] at e2;cases e2;exact⟨u,r,.inr ⟨.inl hk,c,hc,hc'⟩⟩
   ·rw [List.getElem?_set_ne (Lw hj)] at e2;obtain⟨u',r',q⟩:=hl j y v' e1 e2 e3;refine⟨u',r',?_⟩
    rcases q with q|⟨k,c',e,z'⟩
    ·exact .inl q
    ·refine .inr ⟨k,c',e,z'.sameBut hs ?_⟩;rintro rfl;exact hj (p0 hN e1 (I.ok.inj _ _ _ e hc ▸ hi))
  ·by_cases hcc:c'=c
   ·subst hcc;exact⟨_,hc'⟩
   ·obtain⟨w2,z2⟩:=I.cell y c' e;exact⟨w2,z2.sameBut hs hcc⟩
  ·obtain⟨e,n,ne,nf,d⟩:=I.pin p hp;refine⟨(hs.2 p.1 ?_).trans e,n,ne,nf,d⟩;intro q;rw [q,hoc] at e;have q':oc=p.2:=LB e;exact d w' (by rw [←q'];exact hocd)
theorem gH{M:Model}{A:Around}{E:Value->Shared->Prop}{i:Nat}{x:Str}{v:V}{u:Value}{Q:Unit->Shared->Prop}(I:Inv X pins σ H s)(hN:X.N.Nodup)(hi:X.N[i]? = some x)(hx:Loc X.env.scope x)(r:bp v u)
  (h:∀ s',Inv X pins (σ.set i (some v)) H s'->Q () s') (hf:X.fn x=true\/X.env.scope.names.lookup x=some .local:=by first|exact .inl rfl|exact .inr rfl|assumption):wpAny M A (storeName X.env x u) Q E s:=
 lW I hN hi hx r (λ s' I' _=>h s' I') hf
theorem Inv.call'{s':Shared}{ch:List Addr}(I:Inv X pins σ H s)(ho:s'.os=s.os)(u:Un (frs X.stack) ch H H' s.heap s'.heap)(hok:HOk X.prog X.w H' s'.heap)(hg:AllBare s'.gens)
  (hch:∀ b∈ch,(b∈X.ex\/X.s₀.heap.objs.size<=b)/\b ≠ X.env.locals/\(∀ x c,X.env.cells.lookup x=some c->c ≠ b)/\∀ p∈X.pn++pins,p.1 ≠ b):Inv X pins σ H' s':=by
 obtain⟨h',g',d',t',o'⟩:=s';have e:o'=s.os:=ho;subst e;exact I.call (g':=g') (t':=t') (d':=d') u hok hg hch
end
abbrev XK:=Value->Option Addr->Hp->Prop
abbrev St:=List (Option V)
abbrev VK:=V->Hp->Prop
abbrev TE:=St->Hp->VK->Prop
abbrev TT:=St->Hp->(Bool->Hp->Prop)->Prop
abbrev TA:=St->Hp->(List V->Hp->Prop)->Prop
structure oV where
 nx:St->Hp->Prop
 rt:VK
 bk:St->Hp->Prop:=λ _ _=>False
 ct:St->Hp->Prop:=λ _ _=>False
abbrev TS:=oV->St->Hp->Prop
def EP(X:Cx)(pins:List (Addr × Obj))(σ:St)(Q:VK)(u:Value)(s':Shared):Prop:=∃ v H',Inv X pins σ H' s'/\bp v u/\Q v H'
def TP(X:Cx)(pins:List (Addr × Obj))(σ:St)(Q:Bool->Hp->Prop)(b:Bool)(s':Shared):Prop:=∃ H',Inv X pins σ H' s'/\Q b H'
def AP(X:Cx)(pins:List (Addr × Obj))(σ:St)(Q:List V->Hp->Prop)(us:List Value)(s':Shared):Prop:=∃ vs H',Inv X pins σ H' s'/\aT vs us/\Q vs H'
def SP(X:Cx)(pins:List (Addr × Obj))(D:oV)(f:Flow)(s':Shared):Prop:=
 match f with
 | .next=>∃ σ' H',Inv X pins σ' H' s'/\D.nx σ' H'
 | .brk=>∃ σ' H',Inv X pins σ' H' s'/\D.bk σ' H'
 | .cont=>∃ σ' H',Inv X pins σ' H' s'/\D.ct σ' H'
 | .ret u=>∃ v σ' H',Inv X pins σ' H' s'/\bp v u/\D.rt v H'
def PE(X:Cx)(e:Expr)(t:TE):Prop:=
 ∀ (pins:List (Addr × Obj)) (s:Shared) (σ:St) (H:Hp) (Q:VK),Inv X pins σ H s->t σ H Q->wpAny (model X.prog X.w) X.A (eval e X.env) (EP X pins σ Q) X.xe s
def PT(X:Cx)(e:Expr)(t:TT):Prop:=
 ∀ (pins:List (Addr × Obj)) (s:Shared) (σ:St) (H:Hp) (Q:Bool->Hp->Prop),Inv X pins σ H s->t σ H Q->wpAny (model X.prog X.w) X.A (isTrue e X.env (eval e X.env)) (TP X pins σ Q) X.xe s
def PW(X:Cx)(e:Expr)(t:TT):Prop:=
 ∀ (whole:Sem Value) (pins:List (Addr × Obj)) (s:Shared) (σ:St) (H:Hp) (Q:Bool->Hp->Prop),Inv X pins σ H s->t σ H Q->wpAny (model X.prog X.w) X.A (isTrue e X.env whole) (TP X pins σ Q) X.xe s
theorem PW.pt{X:Cx}{e:Expr}{t:TT}(h:PW X e t):PT X e t:=h _
def PA(X:Cx)(es:List Expr)(t:TA):Prop:=
 ∀ (pos:Pos) (pins:List (Addr × Obj)) (s:Shared) (σ:St) (H:Hp) (Q:List V->Hp->Prop),Inv X pins σ H s->t σ H Q->wpAny (model X.prog X.w) X.A (spliced (backTo pos (starEach es X.env))) (AP X pins σ Q) X.xe s
def PS(X:Cx)(st:Stmt)(t:TS):Prop:=
 ∀ (pins:List (Addr × Obj)) (s:Shared) (σ:St) (H:Hp) (D:oV),Inv X pins σ H s->t D σ H->wpAny (model X.prog X.w) X.A (exec st X.env) (SP X pins D) X.xe s
def PSs(X:Cx)(st:List Stmt)(t:TS):Prop:=
 ∀ (pins:List (Addr × Obj)) (s:Shared) (σ:St) (H:Hp) (D:oV),Inv X pins σ H s->t D σ H->wpAny (model X.prog X.w) X.A (execs st X.env) (SP X pins D) X.xe s
theorem thn{α:Type}{t:Sem α}{Q Q':α->Shared->Prop}{M:Model}{A:Around}{E:Value->Shared->Prop}{s:Shared}(h:wpAny M A t Q E s)(hQ:∀ a s,Q a s->Q' a s):wpAny M A t Q' E s:=Nw h hQ λ _ _ x=>x
section
variable {X:Cx}
def G9(i:Nat):TE:=λ σ H Q=>∃ v,σ[i]? = some (some v)/\Q v H
def tC(v:V):TE:=λ _ H Q=>Q v H
theorem EZ{i:Nat}{x:Str}{pos:Pos}(hN:X.N[i]? = some x)(hv:Vis X.env.scope x)(hd:(x == ("__debug__":Str))=false:=by decide)(hcd:(x == ("__classdict__":Str))=false:=by decide):PE X (.Name x pos) (G9 i):=by
 intro pins s σ H Q I h;obtain⟨v,e,h⟩:=h;obtain⟨m,hn,hl⟩:=I.loc;obtain⟨u,r,l⟩:=hl i x v hN e hv;have fin:EP X pins σ Q u s:=⟨v,H,I,r,h⟩
 rcases l with ⟨hk,hm⟩|⟨hk,c,hc,hcell⟩
 ·exact wpAny_Name (wpAny_loadName_local I.ok.kind hk hn hm fin) hd
 ·rcases hk with hk|hk
  ·exact wpAny_Name (wpAny_loadName_cell I.ok.kind hk hc hcell fin) hd
  ·exact wpAny_Name (wpAny_loadName_free I.ok.kind hk hc hcell fin hcd) hd
theorem dX{i j pos}:PE X (.Constant (.int i) j pos) (tC (.int i)):=λ _ _ _ H _ I h=>wpAny_Constant_int ⟨.int i,H,I.tok _,⟨_,rfl⟩,h⟩
theorem cC{b j pos}:PE X (.Constant (.bool b) j pos) (tC (.bl b)):=λ _ _ _ H _ I h=>Constant_bool ⟨.bl b,H,I,rfl,h⟩
theorem dM{j pos}:PE X (.Constant .none j pos) (tC .non):=λ _ _ _ H _ I h=>Constant_none ⟨.non,H,I,rfl,h⟩
theorem bH{x j pos}:PE X (.Constant (.str x) j pos) (tC (.str x)):=λ _ _ _ H _ I h=>Calls.Constant_str ⟨.str x,H,I.tok _,⟨_,rfl⟩,h⟩
def Gl(X:Cx)(x:Str):Prop:=X.env.kindOf x=some .globalImplicit
theorem og{E:Value->Shared->Prop}{pins:List (Addr × Obj)}{s:Shared}{σ:St}{H:Hp}{x:Str}{u:Value}{pos:Pos}{Q:Value->Shared->Prop}(I:Inv X pins σ H s)(hg:Gl X x)(hm:X.mg x=some u)(h:Q u s)
  (hd:(x == ("__debug__":Str))=false:=by decide):wpAny (model X.prog X.w) X.A (eval (.Name x pos) X.env) Q E s:=
 Calls.Name_function_global I.ok.kind hg (Calls.loadGlobal_global (by rw [I.ok.glob];exact I.mod.glob.keeps I.bk) hm h) hd
theorem ft{E:Value->Shared->Prop}{pins:List (Addr × Obj)}{s:Shared}{σ:St}{H:Hp}{x:Str}{u:Value}{pos:Pos}{Q:Value->Shared->Prop}(I:Inv X pins σ H s)(hg:Gl X x)(hm:X.mg x=none)(hv:bootBuiltins x=some u)(h:Q u s)
  (hn:x ≠ "__name__":=by decide) (hd:(x == ("__debug__":Str))=false:=by decide):wpAny (model X.prog X.w) X.A (eval (.Name x pos) X.env) Q E s:=by
 obtain⟨mb,h1,h2⟩:=I.mod.blt;exact Calls.Name_function_global I.ok.kind hg (Calls.loadGlobal_builtin (by rw [I.ok.glob];exact I.mod.glob.keeps I.bk) hm (by rw [I.ok.blt];exact h1.keeps I.bk) ((h2 x hn).trans hv) h) hd
theorem j6{x:Str}{v:V}{u:Value}{pos:Pos}(hg:Gl X x)(hm:X.mg x=some u)(r:bp v u)(hd:(x == ("__debug__":Str))=false:=by decide):PE X (.Name x pos) (tC v):=
 λ _ _ _ H _ I h=>og I hg hm ⟨v,H,I,r,h⟩ hd
theorem BP{x:Str}{v:V}{u:Value}{pos:Pos}(hg:Gl X x)(hm:X.mg x=none)(hv:bootBuiltins x=some u)(r:bp v u)(hn:x ≠ "__name__":=by decide)(hd:(x == ("__debug__":Str))=false:=by decide):PE X (.Name x pos) (tC v):=
 λ _ _ _ H _ I h=>ft I hg hm hv ⟨v,H,I,r,h⟩ hn hd
variable {a b:Expr}{ta tb:TE}{pos:Pos}
def tB(t:TE):TT:=λ σ H Q=>t σ H λ x H1=>∃ c,x=.bl c/\Q c H1
theorem EO{e:Expr}{t:TE}(h:PE X e t)(he:∀ whole,isTrue e X.env whole=(do let v ←whole;standAt e.pos;holding [v] (truthy v)):=by intro _;rfl):PT X e (tB t):=by
 intro pins s σ H Q I hw;refine isTrue_plain (thn (h pins s σ H _ I hw) λ v s1 ⟨x,H1,I1,r1,q1⟩=>?_) (he _);obtain⟨d,rfl,q⟩:=q1;cases r1;exact LX ⟨H1,I1,q⟩
variable {tA tB':TT}{rest:List Expr}
def JA(t u:TT):TT:=λ σ H Q=>t σ H λ c H1=>if c=true then u σ H1 Q else Q false H1
def tOr(t u:TT):TT:=λ σ H Q=>t σ H λ c H1=>if c=true then Q true H1 else u σ H1 Q
def Ju(t:TT):TT:=λ σ H Q=>t σ H λ c H1=>Q (!c) H1
theorem dz(ha:PT X a tA):PW X (.BoolOp .And [a] pos) tA:=by
 intro wh pins s σ H Q I h;refine isTrue_and (thn (ha pins s σ H Q I h) λ c s1 e=>?_)
 cases c with
 | true=>exact isTrue_and_nil e
 | false=>exact e
theorem EL(ha:PT X a tA):PW X (.BoolOp .Or [a] pos) tA:=by
 intro wh pins s σ H Q I h;refine isTrue_or (thn (ha pins s σ H Q I h) λ c s1 e=>?_)
 cases c with
 | false=>exact isTrue_or_nil e
 | true=>exact e
theorem EM(ha:PT X a tA)(hb:PW X (.BoolOp .And (b::rest) pos) tB'):PW X (.BoolOp .And (a::b::rest) pos) (JA tA tB'):=by
 intro wh pins s σ H Q I h;refine isTrue_and (thn (ha pins s σ H _ I h) λ c s1 ⟨H1,I1,q1⟩=>?_)
 cases c with
 | true=>exact hb wh pins s1 σ H1 Q I1 q1
 | false=>exact⟨H1,I1,q1⟩
theorem Ii(ha:PT X a tA)(hb:PW X (.BoolOp .Or (b::rest) pos) tB'):PW X (.BoolOp .Or (a::b::rest) pos) (tOr tA tB'):=by
 intro wh pins s σ H Q I h;refine isTrue_or (thn (ha pins s σ H _ I h) λ c s1 ⟨H1,I1,q1⟩=>?_)
 cases c with
 | true=>exact⟨H1,I1,q1⟩
 | false=>exact hb wh pins s1 σ H1 Q I1 q1
theorem ER(ha:PT X a tA):PT X (.UnaryOp .Not a pos) (Ju tA):=by
 intro pins s σ H Q I h;exact isTrue_not (ha pins s σ H (λ c H1=>Q (!c) H1) I h)
def D6(ta tb:TE):TE:=λ σ H Q=>ta σ H λ x H1=>∃ c,x=.bl c/\if c=true then tb σ H1 Q else Q (.bl false) H1
def Jt(ta tb:TE):TE:=λ σ H Q=>ta σ H λ x H1=>∃ c,x=.bl c/\if c=true then Q (.bl true) H1 else tb σ H1 Q
def DY(ta:TE):TE:=λ σ H Q=>ta σ H λ x H1=>∃ c,x=.bl c/\Q (.bl (!c)) H1
theorem E1{op}{t:TE}(h:PE X a t):PE X (.BoolOp op [a] pos) t:=λ pins s σ H Q I hw=>BoolOp_one (h pins s σ H Q I hw)
theorem E4(ha:PE X a ta)(hb:PE X (.BoolOp .And (b::rest) pos) tb):PE X (.BoolOp .And (a::b::rest) pos) (D6 ta tb):=by
 intro pins s σ H Q I h;refine BoolOp_and (thn (ha pins s σ H _ I h) λ v s1 ⟨x,H1,I1,r1,q1⟩=>?_);obtain⟨c,rfl,q1⟩:=q1;cases r1;refine LX ?_
 cases c with
 | true=>exact hb pins s1 σ H1 Q I1 q1
 | false=>exact⟨.bl false,H1,I1,rfl,q1⟩
theorem Ij(ha:PE X a ta)(hb:PE X (.BoolOp .Or (b::rest) pos) tb):PE X (.BoolOp .Or (a::b::rest) pos) (Jt ta tb):=by
 intro pins s σ H Q I h;refine BoolOp_or (thn (ha pins s σ H _ I h) λ v s1 ⟨x,H1,I1,r1,q1⟩=>?_);obtain⟨c,rfl,q1⟩:=q1;cases r1;refine LX ?_
 cases c with
 | false=>exact hb pins s1 σ H1 Q I1 q1
 | true=>exact⟨.bl true,H1,I1,rfl,q1⟩
theorem E2(ha:PE X a ta):PE X (.UnaryOp .Not a pos) (DY ta):=by
 intro pins s σ H Q I h;refine UnaryOp_ (thn (ha pins s σ H _ I h) λ v s1 ⟨x,H1,I1,r1,q1⟩=>?_);obtain⟨c,rfl,q1⟩:=q1;cases r1;exact not_of (LX ⟨.bl (!c),H1,I1,rfl,q1⟩)
def tIf(t:TT)(ta tb:TE):TE:=λ σ H Q=>t σ H λ c H1=>if c=true then ta σ H1 Q else tb σ H1 Q
theorem kH{c:Expr}(hc:PT X c tA)(ha:PE X a ta)(hb:PE X b tb):PE X (.IfExp c a b pos) (tIf tA ta tb):=by
 intro pins s σ H Q I h;refine wpAny_IfExp (thn (hc pins s σ H _ I h) λ d s1 ⟨H1,I1,q1⟩=>?_)
 cases d with
 | true=>exact ha pins s1 σ H1 Q I1 q1
 | false=>exact hb pins s1 σ H1 Q I1 q1
end
def SqL(K:W.Frag)(H:Hp)(a:Addr)(xs:List V):Prop:=
 Rd H a (.lst xs) \/
  ∃ (o:Obj) (its:Array Value) (n:Nat),K.lookup a=some o/\o.cls=.type "list" /\ o.dict=none/\o.data=.seq its n/\its.size<=sizeLine/\aT xs its.toList
def SqT(K:W.Frag)(H:Hp)(a:Addr)(xs:List V):Prop:=
 Rd H a (.tup xs) \/
  ∃ (o:Obj) (its:Array Value) (n:Nat),K.lookup a=some o/\o.cls=.type "tuple" /\ o.data=.seq its n/\its.size<=sizeLine/\aT xs its.toList
def KL:Value->Option V
 | .none=>some .non
 | .bool b=>some (.bl b)
 | .int i _=>some (.int i)
 | .str x _=>some (.str x)
 | .bytes b _=>some (.byt b)
 | .float b _=>some (.flt b)
 | .ref a=>some (.ref a)
 | .type n=>some (.ty n)
 | _=>none
theorem bp.abs{x:V}{u:Value}(r:bp x u):KL u=some x:=by
 cases x with
 | non=>cases r;rfl
 | bl _=>cases r;rfl
 | int _=>obtain⟨t,rfl⟩:=r;rfl
 | str _=>obtain⟨t,rfl⟩:=r;rfl
 | byt _=>obtain⟨t,rfl⟩:=r;rfl
 | flt _=>obtain⟨t,rfl⟩:=r;rfl
 | ref _=>cases r;rfl
 | ty _=>cases r;rfl
theorem bp.inj{x y:V}{u:Value}(r:bp x u)(q:bp y u):x=y:=LB (r.abs.symm.trans q.abs)
theorem aT.inj:∀ {xs ys:List V}{us:List Value},aT xs us->aT ys us->xs=ys
 | _,_,_,.nil,.nil=>rfl
 | _,_,_,.cons r t,.cons r' t'=>by rw [r.inj r',aT.inj t t']
section
variable {X:Cx}{pins:List (Addr × Obj)}{σ:St}{H:Hp}{s:Shared}{a:Addr}{xs ys:List V}
theorem SqL.of{K:W.Frag}(h:H a=some (.lst xs)):SqL K H a xs:=.inl (.inl h)
theorem SqT.of{K:W.Frag}(h:H a=some (.tup xs)):SqT K H a xs:=.inl (.inl h)
theorem Inv.list(I:Inv X pins σ H s)(h:SqL X.K H a xs):∃ its:List Value,aT xs its/\PlainL s.heap a its.toArray/\xs.length<=sizeLine:=by
 rcases h with h|⟨o,its,n,hk,hc,hd,hs,hz,r⟩
 ·obtain⟨z,its,n,r,e⟩:=h.ok I.hok;exact⟨its,r,⟨_,n,e,rfl,rfl,rfl⟩,z⟩
 ·refine⟨its.toList,r,⟨o,n,I.kIn a o hk,hc,hd,by simpa using hs⟩,?_⟩;have e:=r.length;simp only [Mp] at e;omega
theorem Inv.tuple(I:Inv X pins σ H s)(h:SqT X.K H a xs):∃ its:List Value,aT xs its/\IsTup s.heap a its.toArray/\xs.length<=sizeLine:=by
 rcases h with h|⟨o,its,n,hk,hc,hs,hz,r⟩
 ·obtain⟨z,its,r,p⟩:=h.ok I.hok;exact⟨its,r,p,z⟩
 ·refine⟨its.toList,r,⟨o,I.kIn a o hk,hc,n,by simpa using hs⟩,?_⟩;have e:=r.length;simp only [Mp] at e;omega
theorem Inv.list_inj(I:Inv X pins σ H s)(h:SqL X.K H a xs)(h':SqL X.K H a ys):xs=ys:=by
 obtain⟨its,r,⟨o,n,e,_,_,d⟩,_⟩:=I.list h;obtain⟨its',r',⟨o',n',e',_,_,d'⟩,_⟩:=I.list h';rw [e] at e';cases e';rw [d] at d'
 injection d' with d1 _
 have:its=its':=by simpa using L6 Array.toList d1
 subst this;exact r.inj r'
theorem Inv.tuple_inj(I:Inv X pins σ H s)(h:SqT X.K H a xs)(h':SqT X.K H a ys):xs=ys:=by
 obtain⟨its,r,⟨o,e,_,n,d⟩,_⟩:=I.tuple h;obtain⟨its',r',⟨o',e',_,n',d'⟩,_⟩:=I.tuple h';rw [e] at e';cases e';rw [d] at d'
 injection d' with d1 _
 have:its=its':=by simpa using L6 Array.toList d1
 subst this;exact r.inj r'
end
abbrev Cx.wish(X:Cx)(E:Value->Shared->Prop):Cx:={ X with xe:=E }
abbrev Cx.nox(X:Cx):Cx:=X.wish λ _ _=>False
theorem Cx.Ok.wish{X:Cx}(ok:X.Ok)(E:Value->Shared->Prop):(X.wish E).Ok:=
 ⟨ok.mod,ok.kind,ok.glob,ok.blt,ok.above,ok.inj,ok.has,ok.cab,ok.hd,ok.frames,ok.stk,ok.exf,ok.bs,ok.bsz,ok.noex,ok.exfs,ok.funs,ok.frf⟩
theorem Cx.Ok.unwish{X:Cx}{E:Value->Shared->Prop}(ok:(X.wish E).Ok):X.Ok:=
 ⟨ok.mod,ok.kind,ok.glob,ok.blt,ok.above,ok.inj,ok.has,ok.cab,ok.hd,ok.frames,ok.stk,ok.exf,ok.bs,ok.bsz,ok.noex,ok.exfs,ok.funs,ok.frf⟩
section
variable {X:Cx}{pins:List (Addr × Obj)}{σ:St}{H:Hp}{s:Shared}{E:Value->Shared->Prop}
theorem Inv.wish(I:Inv X pins σ H s)(E:Value->Shared->Prop):Inv (X.wish E) pins σ H s:=⟨I.ok.wish E,I.os,I.bare,I.base,I.loc,I.cell,I.free,I.freeC,I.pin,I.hok,I.len⟩
theorem Inv.unwish(I:Inv (X.wish E) pins σ H s):Inv X pins σ H s:=⟨I.ok.unwish,I.os,I.bare,I.base,I.loc,I.cell,I.free,I.freeC,I.pin,I.hok,I.len⟩
theorem SP.unwish{D:oV}{f:Flow}{s':Shared}(h:SP (X.wish E) pins D f s'):SP X pins D f s':=by
 cases f with
 | next=>obtain⟨σ',H',I,q⟩:=h;exact⟨σ',H',I.unwish,q⟩
 | brk=>obtain⟨σ',H',I,q⟩:=h;exact⟨σ',H',I.unwish,q⟩
 | cont=>obtain⟨σ',H',I,q⟩:=h;exact⟨σ',H',I.unwish,q⟩
 | ret u=>obtain⟨v,σ',H',I,r,q⟩:=h;exact⟨v,σ',H',I.unwish,r,q⟩
theorem PSs.nox{st:List Stmt}{t:TS}(h:PSs X.nox st t):PSs X st t:=λ pins s σ H D I hw=>
 Nw (h pins s σ H D (I.wish _) hw) (λ _ _ q=>q.unwish) λ _ _ z=>False.elim z
end
section
variable {X:Cx}{st:Stmt}{rest:List Stmt}{t u:TS}{e:Expr}{te:TE}{pos:Pos}
def DZ:TS:=λ D σ H=>D.nx σ H
def Jq(t u:TS):TS:=λ D σ H=>t { D with nx:=u D } σ H
theorem ar:PSs X [] DZ:=λ _ _ σ H _ I h=>NM ⟨σ,H,I,h⟩
theorem fw(h1:PS X st t)(h2:PSs X rest u):PSs X (st::rest) (Jq t u):=by
 intro pins s σ H D I h;refine wpAny_execs_cons (thn (h1 pins s σ H { D with nx:=u D } I h) λ f s1 q=>?_)
 cases f with
 | next=>
  obtain⟨σ',H',I',q⟩:=q;exact h2 pins s1 σ' H' D I' q
 | ret v=>exact q
 | brk=>exact q
 | cont=>exact q
theorem j0(h1:PS X st t):PSs X [st] t:=by
 intro pins s σ H D I h;refine wpAny_execs_cons (thn (h1 pins s σ H D I h) λ f s1 q=>?_)
 cases f with
 | next=>exact NM q
 | ret v=>exact q
 | brk=>exact q
 | cont=>exact q
theorem Inv.quiet{pins:List (Addr × Obj)}{σ:St}{H:Hp}{s:Shared}(I:Inv X pins σ H s):interactive X.env=false:=by simp [interactive,I.ok.kind]
def D0(te:TE):TS:=λ D σ H=>te σ H λ _ H1=>D.nx σ H1
theorem BD(he:PE X e te)(hs:swapsWith e none pos.line X.env=pure false:=by rfl):PS X (.Expr e pos) (D0 te):=by
 intro pins s σ H D I h;exact wpAny_Expr_any (thn (he pins s σ H _ I h) λ v s1 ⟨x,H1,I1,r1,q1⟩=>⟨σ,H1,I1,q1⟩) I.quiet hs
def Jr(te:TE):TS:=λ D σ H=>te σ H D.rt
theorem ud(he:PE X e te):PS X (.Return (some e) pos) (Jr te):=by
 intro pins s σ H D I h;exact wpAny_Return_some (thn (he pins s σ H _ I h) λ v s1 ⟨x,H1,I1,r1,q1⟩=>⟨x,σ,H1,I1,r1,q1⟩)
def Jw(c:TT)(t u:TS):TS:=λ D σ H=>c σ H λ b H1=>if b=true then t D σ H1 else u D σ H1
theorem AS{c:Expr}{a b:List Stmt}{tc:TT}(hc:PT X c tc)(ha:PSs X a t)(hb:PSs X b u):PS X (.If c a b pos) (Jw tc t u):=by
 intro pins s σ H D I h;refine wpAny_If (thn (hc pins s σ H _ I h) λ d s1 ⟨H1,I1,q1⟩=>?_)
 cases d with
 | true=>exact ha pins s1 σ H1 D I1 q1
 | false=>exact hb pins s1 σ H1 D I1 q1
def EG:TS:=λ _ _ _=>False
theorem gI:PS X st EG:=λ _ _ _ _ _ _ h=>h.elim
end
abbrev TG:=V->St->Hp->(St->Hp->Prop)->Prop
abbrev TGs:=List V->St->Hp->(St->Hp->Prop)->Prop
def PG(X:Cx)(target:Expr)(t:TG):Prop:=
 ∀ (pins:List (Addr × Obj)) (s:Shared) (σ:St) (H:Hp) (v:V) (u:Value) (Q:St->Hp->Prop),Inv X pins σ H s->bp v u->t v σ H Q →
  wpAny (model X.prog X.w) X.A (assign target X.env u) (λ _ s'=>∃ σ' H',Inv X pins σ' H' s'/\Q σ' H') X.xe s
def PGs(X:Cx)(ts:List Expr)(t:TGs):Prop:=
 ∀ (pins:List (Addr × Obj)) (s:Shared) (σ:St) (H:Hp) (vs:List V) (us:List Value) (Q:St->Hp->Prop),Inv X pins σ H s->aT vs us->t vs σ H Q →
  wpAny (model X.prog X.w) X.A (assignInOrder ((assignEach ts X.env).map (·.2)) us) (λ _ s'=>∃ σ' H',Inv X pins σ' H' s'/\Q σ' H') X.xe s
abbrev Aa:=V->V->V->Hp->(Hp->Prop)->Prop
def Ka(X:Cx)(t:Aa):Prop:=
 ∀ (pins:List (Addr × Obj)) (s:Shared) (σ:St) (H:Hp) (o i v:V) (ov iv u:Value) (Q:Hp->Prop),Inv X pins σ H s->bp o ov->bp i iv->bp v u->t o i v H Q →
  wpAny (model X.prog X.w) X.A (setItem ov iv u) (λ _ s'=>∃ H',Inv X pins σ H' s'/\Q H') X.xe s
section
variable {X:Cx}{pos:Pos}
def cq(i:Nat):TG:=λ v σ H Q=>Q (σ.set i (some v)) H
theorem uJ{i:Nat}{x:Str}(hN:X.N.Nodup)(hi:X.N[i]? = some x)(hx:Loc X.env.scope x)(hf:X.fn x=true\/X.env.scope.names.lookup x=some .local:=by first|exact .inl rfl|exact .inr rfl|assumption):PG X (.Name x pos) (cq i):=by
 intro pins s σ H v u Q I r h;exact wpAny_assign_Name (gH I hN hi hx r (λ s' I'=>⟨_,H,I',h⟩) hf)
def J6:TGs:=λ vs σ H Q=>vs=[]/\Q σ H
def Ew(t:TG)(u:TGs):TGs:=λ vs σ H Q=>∃ v r,vs=v::r/\t v σ H λ σ' H'=>u r σ' H' Q
theorem BH:PGs X [] J6:=by
 intro pins s σ H vs us Q I r h;obtain⟨e,h⟩:=h;subst e;cases r;exact assignInOrder_nil ⟨σ,H,I,h⟩
theorem x9{e:Expr}{es:List Expr}{t:TG}{u:TGs}(h1:PG X e t)(h2:PGs X es u)
  (hs:(assignEach (e::es) X.env).map (·.2)=assign e X.env::(assignEach es X.env).map (·.2):=by rfl):PGs X (e::es) (Ew t u):=by
 intro pins s σ H vs us Q I r h;obtain⟨v,vr,e1,h⟩:=h;subst e1
 cases r with
 | cons r rr=>
  rw [hs];refine assignInOrder_cons (thn (h1 pins s σ H _ _ _ I r h) λ _ s1 ⟨σ1,H1,I1,q1⟩=>?_);exact h2 pins s1 σ1 H1 _ _ Q I1 rr q1
def J4(K:W.Frag)(n:Nat)(t:TGs):TG:=λ v σ H Q=>∃ a xs,v=.ref a/\SqT K H a xs/\xs.length=n/\t xs σ H Q
theorem EY{es:List Expr}{k:Nat}{t:TGs}{n:Nat}(hc:X.calm=true)(h:PGs X es t)
  (hn:(assignEach es X.env).length=n:=by rfl) (hst:(assignEach es X.env).findIdx? (·.1)=none:=by rfl):PG X (.Tuple es k pos) (J4 X.K n t):=by
 intro pins s σ H v u Q I r hw;obtain⟨a,xs,e1,hq,hl,hw⟩:=hw;subst e1;cases r;obtain⟨its,rv,ht,hz⟩:=I.tuple hq;refine assign_Tuple_tuple (I.ok.hd hc) ht (by simp [hn,←hl,rv.length]) hst λ h' hx=>?_;have I1:Inv X pins σ H { s with heap:=h' }:=I.kept (t':=s.toks) λ b o e=>hx b o (Lf (K6 e)) e;exact h pins _ σ H xs _ Q I1 (by simpa using rv) hw
def J5(to ti:TE)(t:Aa):TG:=λ v σ H Q=>to σ H λ o H1=>ti σ H1 λ i H2=>t o i v H2 λ H3=>Q σ H3
theorem Am{o i:Expr}{to ti:TE}{t:Aa}(ho:PE X o to)(hi:PE X i ti)(hs:Ka X t)
  (ha:∀ v,assign (.Subscript o i pos) X.env v=(do
   let ov ←holding [v] (eval o X.env)
   let iv ←holding [v,ov] (eval i X.env)
   standAt pos
   holding [v,ov,iv] (setItem ov iv v)
   release [v,ov,iv] []):=by intro _;rfl):PG X (.Subscript o i pos) (J5 to ti t):=by
 intro pins s σ H v u Q I r h;rw [ha];refine KW (MX (thn (ho pins s σ H _ I h) λ ov s1 ⟨x,H1,I1,r1,q1⟩=>?_));refine KW (MX (thn (hi pins s1 σ H1 _ I1 q1) λ iv s2 ⟨y,H2,I2,r2,q2⟩=>?_));refine KW (ND (KW (MX (thn (hs pins s2 σ H2 x y v ov iv u _ I2 r1 r2 r q2) λ _ s3 ⟨H3,I3,q3⟩=>?_))));exact wpAny_release ⟨σ,H3,I3,q3⟩
def Hq(te:TE)(g:TG):TS:=λ D σ H=>te σ H λ x H1=>g x σ H1 D.nx
theorem EU{tg e:Expr}{te:TE}{g:TG}(he:PE X e te)(hg:PG X tg g)(hs:swapsWithSole [tg] e pos.line X.env=pure false:=by rfl)(hw:swappedStores [tg] e X.env=pure none:=by rfl)
  (h1:(assignEach [tg] X.env).map (·.2)=[assign tg X.env]:=by rfl):PS X (.Assign [tg] e pos) (Hq te g):=by
 intro pins s σ H D I h;refine wpAny_Assign_stores (thn (he pins s σ H _ I h) λ v s1 ⟨x,H1,I1,r1,q1⟩=>?_) hs hw;rw [h1];exact thn (hg pins s1 σ H1 x v _ I1 r1 q1) λ _ s2 q=>q
theorem gX{i:Nat}{x:Str}{e:Expr}{te:TE}{pos':Pos}(hN:X.N.Nodup)(hi:X.N[i]? = some x)(hx:Loc X.env.scope x)(he:PE X e te)(hs:swapsWith e (some (.Name x pos')) pos.line X.env=pure false:=by rfl)(hf:X.fn x=true\/X.env.scope.names.lookup x=some .local:=by first|exact .inl rfl|exact .inr rfl|assumption) :
  PS X (.Assign [.Name x pos'] e pos) (Hq te (cq i)):=by
 intro pins s σ H D I h;refine wpAny_Assign_Name (thn (he pins s σ H _ I h) λ v s1 ⟨y,H1,I1,r1,q1⟩=>?_) hs;exact gH I1 hN hi hx r1 (λ s2 I2=>⟨_,H1,I2,q1⟩) hf
def Js(i j:Nat)(ta:TA):TS:=λ D σ H=>ta σ H λ vs H1=>∃ v w,vs=[v,w]/\D.nx ((σ.set i (some v)).set j (some w)) H1
theorem ES{i j:Nat}{x y:Str}{a b:Expr}{ta:TA}{px py pt:Pos}{kt k2 pt2}(hc:X.calm=true)(hN:X.N.Nodup)(hi:X.N[i]? = some x)(hj:X.N[j]? = some y)(hij:i ≠ j)
  (hx:X.env.scope.names.lookup x=some .local) (hy:X.env.scope.names.lookup y=some .local) (ha:PA X [a,b] ta)
  (hw:swappedStores [.Tuple [.Name x px,.Name y py] kt pt] (.Tuple [a,b] k2 pt2) X.env=pure (some [x,y]))
  (hs:swapsWithSole [.Tuple [.Name x px,.Name y py] kt pt] (.Tuple [a,b] k2 pt2) pos.line X.env=pure false:=by rfl) :
  PS X (.Assign [.Tuple [.Name x px,.Name y py] kt pt] (.Tuple [a,b] k2 pt2) pos) (Js i j ta):=by
 intro pins s σ H D I h;rw [exec_Assign_arm];refine KW (ND ?_);rw [hs];refine KW (K8 ?_);rw [K5 (by decide)];refine KW (Tuple_ (thn (ha _ pins s σ H _ I h) λ us s1 ⟨vs,H1,I1,r1,q1⟩=>?_));obtain⟨v,w,e1,q1⟩:=q1;subst e1
 obtain⟨u1,u2,rfl,rv,rw'⟩:∃ u1 u2,us=[u1,u2]/\bp v u1/\bp w u2:=by
  cases r1 with
  | cons p q=>
   cases q with
   | cons p' q'=>
    cases q';exact⟨_,_,rfl,p,p'⟩
 refine Md ?_ (by show 2<=sizeLine;decide);have I2:Inv X pins σ H1 { s1 with heap:=s1.heap.push { cls:=.type "tuple",data:=.seq [u1,u2].toArray } }:=I1.kept (t':=s1.toks) λ b o e=>KY _ e;rw [hw];refine KW (K8 ?_)
 show wpAny (model X.prog X.w) X.A (do rule "assign.swapped-stores";let items ←unpackItems (.ref s1.heap.objs.size) 2 none;assignInOrder [λ v=>bindName X.env y v,λ v=>bindName X.env x v] items.reverse;pure Flow.next) _ _ _
 refine KW (wpAny_rule (KW (unpackItems_tuple (items:=#[u1,u2]) (I.ok.hd hc) (IsTup.new s1.heap _) λ h' hx'=>?_)));have I3:=I2.kept (h':=h') (t':=s1.toks) λ b o e=>hx' b o (Lf (K6 e)) e
 show wpAny _ _ (assignInOrder [λ v=>bindName X.env y v,λ v=>bindName X.env x v] [u2,u1] >>= λ _=>pure Flow.next) _ _ _
 refine KW (assignInOrder_cons (wpAny_bindName (gH I3 hN hj (.inl hy) rw' (λ s2 I4=>?_) (.inr hy))));refine assignInOrder_cons (wpAny_bindName (gH I4 hN hi (.inl hx) rv (λ s3 I5=>assignInOrder_nil (K8 ?_)) (.inr hx)));rw [List.set_comm _ _ (Lw hij)] at I5;exact⟨_,H1,I5,q1⟩
end
section
variable {X:Cx}{pos:Pos}
def tL(c:TT)(tb:TS):TS:=λ D σ H=>∃ W:Nat->St->Hp->Prop,(∃ m,W m σ H)/\∀ m σ H,W m σ H →
 c σ H λ b H1=>if b=true then ∃ N:St->Hp->Prop,(∀ σ' H',N σ' H'->∃ m',m' < m/\W m' σ' H')/\tb { D with nx:=N,ct:=N,bk:=D.nx } σ H1 else D.nx σ H1
theorem kF{c:Expr}{body:List Stmt}{tc:TT}{tb:TS}(hp:PassesOwn (model X.prog X.w) X.A X.env X.xe)(hc:PT X c tc)(hb:PSs X body tb):PS X (.While c body [] pos) (tL tc tb):=by
 intro pins s σ H D I h;obtain⟨W,⟨m0,w0⟩,turn⟩:=h;refine wpAny_While (codeAny_whileLoop (λ n s'=>∃ σ' H',Inv X pins σ' H' s'/\W n σ' H') ?_ m0 ⟨σ,H,I,w0⟩);rintro n s1 ⟨σ1,H1,I1,w1⟩;refine MD hp (thn (hc pins s1 σ1 H1 _ I1 (turn n σ1 H1 w1)) λ b s2 ⟨H2,I2,q2⟩=>?_)
 cases b with
 | true=>
  obtain⟨N,hN,q2⟩:=q2;rw [K7 rfl];refine MD hp (thn (hb pins s2 σ1 H2 _ I2 q2) λ f s3 q3=>?_)
  cases f with
  | next=>
   obtain⟨σ3,H3,I3,n3⟩:=q3;obtain⟨m',hm,w3⟩:=hN σ3 H3 n3;exact⟨m',hm,σ3,H3,I3,w3⟩
  | cont=>
   obtain⟨σ3,H3,I3,n3⟩:=q3;obtain⟨m',hm,w3⟩:=hN σ3 H3 n3;exact⟨m',hm,σ3,H3,I3,w3⟩
  | brk=>exact q3
  | ret v=>exact q3
 | false=>
  rw [K5 Lg];exact NM ⟨σ1,H2,I2,q2⟩
end
structure It where
 go:Nat->Hp->Prop
 yld:Nat->Hp->V->Hp->Prop
 stop:Nat->Hp->Prop
def ny(X:Cx)(pins:List (Addr × Obj))(H:Hp)(b:Addr):Prop:=
 H b=none/\b ≠ X.env.locals/\b ∉ X.fs/\(b∈X.ex\/X.s₀.heap.objs.size<=b)/\(∀ x c,X.env.cells.lookup x=some c->c ≠ b)/\∀ p∈X.pn++pins,p.1 ≠ b
theorem Inv.fpOk{X:Cx}{pins:List (Addr × Obj)}{σ:St}{H H':Hp}{s:Shared}{b:Addr}(I:Inv X pins σ H s)(hb:s.heap.objs.size<=b)(hn:H' b=none):ny X pins H' b:=by
 refine⟨hn,ML (Le I.lt hb),I.nofs hb,.inr (LU I.sz hb),λ x c e z=>?_,λ p hp z=>?_⟩
 ·obtain⟨v,q⟩:=I.cell x c e;exact absurd (Le q.lt (by rw [z];exact hb)) (Mt _)
 ·exact absurd (Le (K6 (I.pin p hp).1) (by rw [z];exact hb)) (Mt _)
structure zZ(P:Program)(w:World)(K:W.Frag)(tg:Expr)(J:It)(fp:List Addr)(it:Addr)(tn:Nat->Heap->Prop):Prop where
 mem:it∈fp
 obj:∀ i h,tn i h->∀ b∈fp,∃ o,h.get? b=some o/\∀ v,o.data ≠ .cell v
 keep:∀ i h h',tn i h->(∀ b∈fp,∀ o,h.get? b=some o->h'.get? b=some o)->tn i h'
 item:∀ (X:Cx),X.prog=P->X.w=w->X.K=K->X.calm=true->∀ (i:Nat) (pins:List (Addr × Obj)) (s:Shared) (σ:St) (H:Hp) (E:Value->Shared->Prop),Inv X pins σ H s->(∀ b∈fp,ny X pins H b)->tn i s.heap->J.go i H →
  wpAny (model P w) X.A (pyNext (.ref it)) (λ r s1=>∃ u,r=some u /\
   wpAny (model P w) X.A (letOwnedTupleGo tg (.ref it) u) (λ _ s2=>∃ x H',Inv X pins σ H' s2/\bp x u/\J.yld i H x H'/\tn (i+1) s2.heap/\∀ b∈fp,H' b=none) E s1) E s
 done:∀ (X:Cx),X.prog=P->X.w=w->X.K=K->X.calm=true->∀ (i:Nat) (pins:List (Addr × Obj)) (s:Shared) (σ:St) (H:Hp) (E:Value->Shared->Prop),Inv X pins σ H s->(∀ b∈fp,ny X pins H b)->tn i s.heap->J.stop i H →
  wpAny (model P w) X.A (pyNext (.ref it)) (λ r s1=>r=none/\Inv X pins σ H s1) E s
 self:∀ (A:Around) (i:Nat) (s:Shared) (Q:Value->Shared->Prop) (E:Value->Shared->Prop),tn i s.heap->Q (.ref it) s->wpAny (model P w) A (pyIter (.ref it)) Q E s
abbrev TI:=St->Hp->(It->Hp->Prop)->Prop
def PIE(X:Cx)(pins:List (Addr × Obj))(σ:St)(tg:Expr)(R:It->Hp->Prop)(itv:Value)(s2:Shared):Prop:=
 ∃ (it:Addr) (fp:List Addr) (tn:Nat->Heap->Prop) (J:It) (H':Hp),itv=.ref it/\Inv X pins σ H' s2/\zZ X.prog X.w X.K tg J fp it tn/\tn 0 s2.heap/\(∀ b∈fp,ny X pins H' b)/\R J H'
def PI(X:Cx)(tg iter:Expr)(wi:TI):Prop:=
 ∀ (pins:List (Addr × Obj)) (s:Shared) (σ:St) (H:Hp) (R:It->Hp->Prop),Inv X pins σ H s->wi σ H R →
  wpAny (model X.prog X.w) X.A (eval iter X.env) (λ v s1=>wpAny (model X.prog X.w) X.A (pyIter v) (PIE X pins σ tg R) X.xe s1) X.xe s
theorem Bg{M:Model}{A:Around}{E:Value->Shared->Prop}{s:Shared}{tg:Expr}{it:Addr}{u:Value}{o:Obj}{n:String}{vs:Array Value}{Q:Unit->Shared->Prop}(ho:s.heap.get? it=some o)(hc:o.cls=.type n)(hd:o.data=.fields vs)
    (hn:["enumerate", "zip", "dict_itemiterator", "dict_reverseitemiterator", "odict_iterator", "itertools.zip_longest", "itertools.pairwise"].contains n=false) (hQ:Q () s):wpAny M A (letOwnedTupleGo tg (.ref it) u) Q E s:=by
  unfold letOwnedTupleGo
  cases tg<;>first
    | exact K8 hQ
    | (cases u<;>first
        | exact K8 hQ
        | (refine KW (wpAny_load ho ?_)
           rw [hc,hd]
           show wpAny M A (if (["enumerate", "zip", "dict_itemiterator", "dict_reverseitemiterator", "odict_iterator", "itertools.zip_longest", "itertools.pairwise"].contains n && vs[0]? == some (rawInt _))=true then _ else _) Q E s
           rw [K5 (by intro h;rw [hn,Bool.false_and] at h;cases h)];exact K8 hQ))
def Itl(K:W.Frag)(a:Addr):It:=
 ⟨λ i H=>∃ xs x,SqL K H a xs/\xs[i]? = some x,λ i H x H'=>H'=H/\∀ xs,SqL K H a xs->xs[i]? = some x,λ i H=>∃ xs,SqL K H a xs/\xs.length<=i⟩
def Itt(K:W.Frag)(a:Addr):It:=
 ⟨λ i H=>∃ xs x,SqT K H a xs/\xs[i]? = some x,λ i H x H'=>H'=H/\∀ xs,SqT K H a xs->xs[i]? = some x,λ i H=>∃ xs,SqT K H a xs/\xs.length<=i⟩
def Itr(lo:Int)(n:Nat):It:=⟨λ i _=>i < n,λ i H x H'=>H'=H/\x=.int (lo+i),λ i _=>n<=i⟩
theorem vw{P:Program}{w:World}{K:W.Frag}{tg:Expr}(a it:Addr):zZ P w K tg (Itl K a) [it] it (λ i h=>h.IsListIter it a i) where
 mem:=by simp
 obj:=λ i h st b hb=>by
  have e:b=it:=by simpa using hb
  subst e;obtain⟨o,e,c,d⟩:=st;exact⟨o,e,λ v z=>by rw [d] at z;cases z⟩
 keep:=λ i h h' st k=>st.at λ o e=>k it (by simp) o e
 item:=by
  intro X hP hw hK hc i pins s σ H E I hf st hg;subst hP hw hK;obtain⟨xs,x,hq,hx⟩:=hg;obtain⟨its,rv,p,hz⟩:=I.list hq;obtain⟨u,hu,ru⟩:=rv.get hx;obtain⟨f0,f1,f2,f3,f4,f5⟩:=hf it (by simp);refine wpAny_pyNext_list_item st p.isList (x:=u) (by simpa using hu) λ h' st' sb=>?_;have I1:Inv X pins σ H { s with heap:=h' }:=I.turned (t':=s.toks) (λ b o hb e=>(sb.2 b hb).trans e) f0 f1 f3 f4 f5;obtain⟨o,e,c,d⟩:=id st';exact⟨u,rfl,Bg (s:={ s with heap:=h' }) e c d (by decide) ⟨x,H,I1,ru,⟨rfl,λ ys hy=>by rw [I.list_inj hy hq];exact hx⟩,st',λ b hb=>(hf b hb).1⟩⟩
 done:=by
  intro X hP hw hK hc i pins s σ H E I hf st hg;subst hP hw hK;obtain⟨xs,hq,hx⟩:=hg;obtain⟨its,rv,p,hz⟩:=I.list hq;obtain⟨f0,f1,f2,f3,f4,f5⟩:=hf it (by simp);have hl:=rv.length;exact wpAny_pyNext_list_end (I.ok.hd hc) st p.isList (by simp;omega) λ h' eb=>⟨rfl,I.turned (t':=s.toks) (λ b o hb e=>eb b o hb e) f0 f1 f3 f4 f5⟩
 self:=λ _ _ _ _ _ st h=>wpAny_pyIter_listiter st h
theorem qM{P:Program}{w:World}{K:W.Frag}{tg:Expr}(a it:Addr):zZ P w K tg (Itt K a) [it] it (λ i h=>h.IsTupleIter it a i) where
 mem:=by simp
 obj:=λ i h st b hb=>by
  have e:b=it:=by simpa using hb
  subst e;obtain⟨o,e,c,d⟩:=st;exact⟨o,e,λ v z=>by rw [d] at z;cases z⟩
 keep:=λ i h h' st k=>st.at λ o e=>k it (by simp) o e
 item:=by
  intro X hP hw hK hc i pins s σ H E I hf st hg;subst hP hw hK;obtain⟨xs,x,hq,hx⟩:=hg;obtain⟨its,rv,p,hz⟩:=I.tuple hq;obtain⟨u,hu,ru⟩:=rv.get hx;obtain⟨f0,f1,f2,f3,f4,f5⟩:=hf it (by simp);refine wpAny_pyNext_tuple_item st (show s.heap.IsTuple a its.toArray from p) (x:=u) (by simpa using hu) λ h' st' sb=>?_;have I1:Inv X pins σ H { s with heap:=h' }:=I.turned (t':=s.toks) (λ b o hb e=>(sb.2 b hb).trans e) f0 f1 f3 f4 f5;obtain⟨o,e,c,d⟩:=id st';exact⟨u,rfl,Bg (s:={ s with heap:=h' }) e c d (by decide) ⟨x,H,I1,ru,⟨rfl,λ ys hy=>by rw [I.tuple_inj hy hq];exact hx⟩,st',λ b hb=>(hf b hb).1⟩⟩
 done:=by
  intro X hP hw hK hc i pins s σ H E I hf st hg;subst hP hw hK;obtain⟨xs,hq,hx⟩:=hg;obtain⟨its,rv,p,hz⟩:=I.tuple hq;obtain⟨f0,f1,f2,f3,f4,f5⟩:=hf it (by simp);have hl:=rv.length;exact wpAny_pyNext_tuple_end (I.ok.hd hc) st (show s.heap.IsTuple a its.toArray from p) (by simp;omega) λ h' eb=>⟨rfl,I.turned (t':=s.toks) (λ b o hb e=>eb b o hb e) f0 f1 f3 f4 f5⟩
 self:=λ _ _ _ _ _ st h=>wpAny_pyIter_tupleiter st h
theorem qO{P:Program}{w:World}{K:PySem.W.Frag}{tg:Expr}(it:Addr)(lo:Int)(n:Nat):zZ P w K tg (Itr lo n) [it] it (λ i h=>IsRangeIter h it (lo+(i:Nat) * 1) ((n:Int) - (i:Nat)) 1) where
 mem:=by simp
 obj:=λ i h st b hb=>by
  have e:b=it:=by simpa using hb
  subst e
  exact⟨_,st,λ v z=>by
   have z':Data.fields _=Data.cell v:=z;cases z'⟩
 keep:=λ i h h' st k=>k it (by simp) _ st
 item:=by
  intro X hP hw hK hc i pins s σ H E I hf st hg;subst hP hw hK;obtain⟨f0,f1,f2,f3,f4,f5⟩:=hf it (by simp);have W:=Walks.range (prog:=X.prog) (w:=X.w) (I.ok.hd hc) it lo 1 n;refine W.item i s _ _ hg st λ v h' tk hv st' kk=>?_;obtain⟨t,rfl⟩:=hv;have I1:Inv X pins σ H { s with heap:=h',toks:=tk }:=I.turned (λ b o hb e=>kk b o (by simpa using hb) e) f0 f1 f3 f4 f5;refine⟨_,rfl,Bg (s:={ s with heap:=h',toks:=tk }) (n := "range_iterator") st' rfl rfl (by decide) ⟨.int (lo+i),H,I1,⟨t,?_⟩,⟨rfl,rfl⟩,st',λ b hb=>(hf b hb).1⟩⟩;rw [Mh]
 done:=by
  intro X hP hw hK hc i pins s σ H E I hf st hg;subst hP hw hK;obtain⟨f0,f1,f2,f3,f4,f5⟩:=hf it (by simp);exact wpAny_pyNext_range_end (I.ok.hd hc) st (by have:n<=i:=hg;omega) λ h' eb=>⟨rfl,I.turned (t':=s.toks) (λ b o hb e=>eb b o hb e) f0 f1 f3 f4 f5⟩
 self:=λ _ _ _ _ _ st h=>wpAny_pyIter_rangeiter st h
section
variable {X:Cx}{tg:Expr}
theorem xX{pins:List (Addr × Obj)}{σ:St}{H:Hp}{s:Shared}{R:It->Hp->Prop}{E:Value->Shared->Prop}{lo hi:Int}{t u v:Tok}{tk:Nat}(I:Inv X pins σ H s)(h1:-(2 ^ 62)<=lo)(h2:lo < 2 ^ 62)(h3:-(2 ^ 62)<=hi)(h4:hi < 2 ^ 62)
  (q:R (Itr lo (hi - lo).toNat) H):wpAny (model X.prog X.w) X.A (pyIter (.ref s.heap.objs.size)) (PIE X pins σ tg R) E { s with heap:=s.heap.push { cls:=.type "range",data:=.fields #[.int lo t,.int hi u,.int 1 v] },toks:=tk }:=by
 refine wpAny_pyIter_range (IsRange.new ..) (small_one h1 h2 h3 h4) ?_;have I1:Inv X pins σ H { s with heap:=s.heap.push { cls:=.type "range",data:=.fields #[.int lo t,.int hi u,.int 1 v] },toks:=tk }:=I.kept λ b o e=>KY _ e
 refine⟨(s.heap.push { cls:=.type "range",data:=.fields #[.int lo t,.int hi u,.int 1 v] }).objs.size,[(s.heap.push { cls:=.type "range",data:=.fields #[.int lo t,.int hi u,.int 1 v] }).objs.size],_,_,H,rfl,
  I1.kept (t':=tk) λ b o e=>KY _ e,qO _ lo (hi - lo).toNat,?_,λ b hb=>?_,q⟩
 ·have e1:lo+((0:Nat):Int) * 1=lo:=by simp
  have e2:(((hi - lo).toNat:Nat):Int) - ((0:Nat):Int)=Builtin.Range.rangeSize lo hi 1:=by rw [rangeSize_one];split<;>omega
  show IsRangeIter _ _ (lo+((0:Nat):Int) * 1) ((((hi - lo).toNat:Nat):Int) - ((0:Nat):Int)) 1
  rw [e1,e2];exact La _ rfl
 ·have e:b=(s.heap.push { cls:=.type "range",data:=.fields #[.int lo t,.int hi u,.int 1 v] }).objs.size:=by simpa using hb
  subst e;exact I1.fpOk (K3 _) (I1.hok.fresh (K3 _))
def Et(ta:TA):TI:=λ σ H R=>ta σ H λ vs H1=>∃ j:Int,vs=[.int j]/\-(2 ^ 62)<=j/\j < 2 ^ 62/\R (Itr 0 j.toNat) H1
theorem vD{a:Expr}{ta:TA}{p pos:Pos}(hg:Gl X "range")(hm:X.mg "range"=none)(ha:PA X [a] ta)(hs:starEach [a] X.env=[(false,eval a X.env)]:=by rfl):PI X tg (.Call (.Name "range" p) [a] [] pos) (Et ta):=by
 intro pins s σ H R I h;refine Call_ (ft I hg hm boot_range (LN (thn (ha pos pins s σ H _ I h) λ us s1 ⟨vs,H1,I1,r1,q1⟩=>?_) hs rfl));obtain⟨j,e,q1,q2,q⟩:=q1;subst e
 cases r1 with
 | cons r rr=>
  cases rr;obtain⟨t,rfl⟩:=r;exact call_range_1 (xX I1 (by omega) (by omega) q1 q2 (by simpa using q))
def Jx(wi:TI)(g:TG)(tb:TS):TS:=λ D σ H=>wi σ H λ J H1=>∃ W:Nat->Nat->St->Hp->Prop,(∃ m,W 0 m σ H1)/\∀ i m σ H,W i m σ H →
 (J.stop i H/\D.nx σ H)\/(J.go i H/\∃ N:St->Hp->Prop,(∀ σ' H',N σ' H'->∃ m',m' < m/\W (i+1) m' σ' H')/\∀ x H',J.yld i H x H'->g x σ H' λ σ2 H2=>tb { D with nx:=N,ct:=N,bk:=D.nx } σ2 H2)
def lM(fp:List Addr)(h:Heap):List (Addr × Obj):=fp.filterMap λ b=>(h.get? b).map λ o=>(b,o)
theorem eO{fp:List Addr}{h:Heap}{b:Addr}{o:Obj}(hb:b∈fp)(e:h.get? b=some o):(b,o)∈lM fp h:=List.mem_filterMap.mpr ⟨b,hb,by rw [e];rfl⟩
theorem vL{fp:List Addr}{h:Heap}{p:Addr × Obj}(hp:p∈lM fp h):p.1∈fp/\h.get? p.1=some p.2:=by
 obtain⟨b,hb,e⟩:=List.mem_filterMap.mp hp
 cases q:h.get? b with
 | none=>rw [q] at e;cases e
 | some o=>
  rw [q] at e;have e':(b,o)=p:=LB e;subst e';exact⟨hb,q⟩
theorem Inv.pinned{pins:List (Addr × Obj)}{σ:St}{H:Hp}{s:Shared}{fp:List Addr}(I:Inv X pins σ H s)(hf:∀ b∈fp,ny X pins H b)(ho:∀ b∈fp,∃ o,s.heap.get? b=some o/\∀ v,o.data ≠ .cell v):Inv X (pins++lM fp s.heap) σ H s:=
 I.pins_of λ p hp=>(Lu.mp hp).elim (λ z=>I.pin p (Lx _ z)) λ z=>by
  obtain⟨hb,e⟩:=vL z;obtain⟨f0,f1,f2,_⟩:=hf p.1 hb;obtain⟨o,e',d⟩:=ho p.1 hb;rw [e] at e';cases e';exact⟨e,f0,f1,f2,d⟩
theorem Inv.unpinned{pins pl:List (Addr × Obj)}{σ:St}{H:Hp}{s:Shared}(I:Inv X (pins++pl) σ H s):Inv X pins σ H s:=I.pins_of λ p hp=>I.pin p (Lx _ (L5 _ hp))
theorem ET{iter:Expr}{body:List Stmt}{wi:TI}{g:TG}{tb:TS}{pos:Pos}(hp:PassesOwn (model X.prog X.w) X.A X.env X.xe)(hc:X.calm=true)(hi:PI X tg iter wi)(hg:PG X tg g)(hb:PSs X body tb)
  (hs:∀ x,foldedSetIterable iter X.env x=pure x:=by intro _;rfl):PS X (.For tg iter body [] pos) (Jx wi g tb):=by
 intro pins s σ H D I h;refine wpAny_For (thn (hi pins s σ H _ I h) λ v s1 h1=>thn h1 λ itv s2 h2=>?_) hs;obtain⟨it,fp,tn,J,H2,e,I2,T,st2,f2,W,⟨m0,w0⟩,turn⟩:=h2;subst e;have stat:∀ {H':Hp},(∀ b∈fp,H' b=none)->∀ b∈fp,ny X pins H' b:=λ hn b hb=>⟨hn b hb,(f2 b hb).2⟩;refine codeAny_forLoop_any (λ n s'=>∃ i σ' H',Inv X pins σ' H' s'/\tn i s'.heap/\(∀ b∈fp,H' b=none)/\W i n σ' H') ?_ m0 ⟨0,σ,H2,I2,st2,λ b hb=>(f2 b hb).1,w0⟩;rintro n s3 ⟨i,σ3,H3,I3,st3,fr3,w3⟩
 rcases turn i n σ3 H3 w3 with ⟨stop,qn⟩|⟨go,N,hN,step⟩
 ·refine MD hp (thn (T.done X rfl rfl rfl hc i pins s3 σ3 H3 X.xe I3 (stat fr3) st3 stop) λ r s4 ⟨hr,I4⟩=>?_);subst hr;exact NM ⟨σ3,H3,I4,qn⟩
 ·refine MD hp (thn (T.item X rfl rfl rfl hc i pins s3 σ3 H3 X.xe I3 (stat fr3) st3 go) λ r s4 ⟨u,hr,h4⟩=>?_);subst hr;refine MD hp (thn h4 λ _ s5 ⟨x,H5,I5,r5,y5,st5,fr5⟩=>?_);have I5':=I5.pinned (stat fr5) (T.obj _ _ st5);refine MD hp (thn (hg _ s5 σ3 H5 x u _ I5' r5 (step x H5 y5)) λ _ s6 ⟨σ6,H6,I6,q6⟩=>?_);refine MD hp (thn (hb _ s6 σ6 H6 _ I6 q6) λ f s7 q7=>?_)
  have again:∀ {σ7:St} {H7:Hp},Inv X (pins++lM fp s5.heap) σ7 H7 s7->N σ7 H7->∃ m,m < n/\∃ i σ' H',Inv X pins σ' H' s7/\tn i s7.heap/\(∀ b∈fp,H' b=none)/\W i m σ' H':=λ {σ7 H7} I7 n7=>by
   obtain⟨m',hm,w7⟩:=hN σ7 H7 n7;refine⟨m',hm,i+1,σ7,H7,I7.unpinned,T.keep _ _ _ st5 λ b hb o e=>(I7.pin (b,o) (Lx _ (Lx _ (eO hb e)))).1,λ b hb=>?_,w7⟩;obtain⟨o,e,d⟩:=T.obj _ _ st5 b hb;exact(I7.pin (b,o) (Lx _ (Lx _ (eO hb e)))).2.1
  cases f with
  | next=>obtain⟨σ7,H7,I7,n7⟩:=q7;exact again I7 n7
  | cont=>obtain⟨σ7,H7,I7,n7⟩:=q7;exact again I7 n7
  | brk=>obtain⟨σ7,H7,I7,q7⟩:=q7;exact⟨σ7,H7,I7.unpinned,q7⟩
  | ret v=>obtain⟨x7,σ7,H7,I7,r7,q7⟩:=q7;exact⟨x7,σ7,H7,I7.unpinned,r7,q7⟩
end
theorem zu{K:PySem.W.Frag}{a:Addr}{xs:List V}{g:TG}{tb:TS}{D:oV}{σ:St}{H:Hp}(Pv:Nat->St->Hp->Prop)(h0:Pv 0 σ H)(hl:∀ i σ H,i<=xs.length->Pv i σ H->SqL K H a xs)
  (hs:∀ i x σ H,xs[i]? = some x->Pv i σ H->g x σ H λ σ2 H2=>tb { D with nx:=Pv (i+1),ct:=Pv (i+1),bk:=D.nx } σ2 H2) (hd:∀ σ H,Pv xs.length σ H->D.nx σ H) :
  ∃ W:Nat->Nat->St->Hp->Prop,(∃ m,W 0 m σ H)/\∀ i m σ H,W i m σ H →
   ((Itl K a).stop i H/\D.nx σ H)\/((Itl K a).go i H/\∃ N:St->Hp->Prop,(∀ σ' H',N σ' H'->∃ m',m' < m/\W (i+1) m' σ' H')/\∀ x H',(Itl K a).yld i H x H'->g x σ H' λ σ2 H2=>tb { D with nx:=N,ct:=N,bk:=D.nx } σ2 H2):=by
 refine⟨λ i m σ H=>m=xs.length - i/\i<=xs.length/\Pv i σ H,⟨xs.length,by simp,LJ _,h0⟩,?_⟩;rintro i m σ H ⟨rfl,hi,p⟩;have q:=hl i σ H hi p
 by_cases hlt:i < xs.length
 ·refine .inr ⟨⟨xs,xs[i],q,by simp [hlt]⟩,Pv (i+1),λ σ' H' p'=>⟨xs.length - (i+1),by omega,rfl,hlt,p'⟩,λ x H' y=>?_⟩;obtain⟨e,y⟩:=y;subst e;exact hs i x σ _ (y xs q) p
 ·have e:i=xs.length:=by omega
  subst e;exact .inl ⟨⟨xs,q,K3 _⟩,hd σ H p⟩
theorem wW{lo:Int}{n:Nat}{g:TG}{tb:TS}{D:oV}{σ:St}{H:Hp}(Pv:Nat->St->Hp->Prop)(h0:Pv 0 σ H)
  (hs:∀ i σ H,i < n->Pv i σ H->g (.int (lo+i)) σ H λ σ2 H2=>tb { D with nx:=Pv (i+1),ct:=Pv (i+1),bk:=D.nx } σ2 H2) (hd:∀ σ H,Pv n σ H->D.nx σ H) :
  ∃ W:Nat->Nat->St->Hp->Prop,(∃ m,W 0 m σ H)/\∀ i m σ H,W i m σ H →
   ((Itr lo n).stop i H/\D.nx σ H)\/((Itr lo n).go i H/\∃ N:St->Hp->Prop,(∀ σ' H',N σ' H'->∃ m',m' < m/\W (i+1) m' σ' H')/\∀ x H',(Itr lo n).yld i H x H'->g x σ H' λ σ2 H2=>tb { D with nx:=N,ct:=N,bk:=D.nx } σ2 H2):=by
 refine⟨λ i m σ H=>m=n - i/\i<=n/\Pv i σ H,⟨n,by simp,LJ _,h0⟩,?_⟩;rintro i m σ H ⟨rfl,hi,p⟩
 by_cases hlt:i < n
 ·refine .inr ⟨hlt,Pv (i+1),λ σ' H' p'=>⟨n - (i+1),by omega,rfl,hlt,p'⟩,λ x H' y=>?_⟩;obtain⟨e,y⟩:=y;subst e y;exact hs i σ _ hlt p
 ·have e:i=n:=by omega
  subst e;exact .inl ⟨K3 _,hd σ H p⟩
abbrev R2:=V->V->Hp->VK->Prop
def OpR(X:Cx)(f:Value->Value->Sem Value)(r:R2):Prop:=
 ∀ (pins:List (Addr × Obj)) (s:Shared) (σ:St) (H:Hp) (x y:V) (v u:Value) (Q:VK),Inv X pins σ H s->bp x v->bp y u->r x y H Q →
  wpAny (model X.prog X.w) X.A (f v u) (EP X pins σ Q) X.xe s
def UnR(X:Cx)(f:Value->Sem Value)(r:V->Hp->VK->Prop):Prop:=
 ∀ (pins:List (Addr × Obj)) (s:Shared) (σ:St) (H:Hp) (x:V) (v:Value) (Q:VK),Inv X pins σ H s->bp x v->r x H Q →
  wpAny (model X.prog X.w) X.A (f v) (EP X pins σ Q) X.xe s
def bK(X:Cx)(f:Value)(r:List V->Hp->VK->Prop):Prop:=
 ∀ (pins:List (Addr × Obj)) (s:Shared) (σ:St) (H:Hp) (xs:List V) (us:List Value) (Q:VK),Inv X pins σ H s->aT xs us->r xs H Q →
  wpAny (model X.prog X.w) X.A (call f us) (EP X pins σ Q) X.xe s
def tOp(r:R2)(ta tb:TE):TE:=λ σ H Q=>ta σ H λ x H1=>tb σ H1 λ y H2=>r x y H2 Q
def tUn(r:V->Hp->VK->Prop)(ta:TE):TE:=λ σ H Q=>ta σ H λ x H1=>r x H1 Q
def rI(C:Int->Int->Prop)(g:Int->Int->V):R2:=λ x y H Q=>∃ i j,x=.int i/\y=.int j/\C i j/\Q (g i j) H
def rI0(g:Int->Int->V):R2:=λ x y H Q=>∃ i j,x=.int i/\y=.int j/\Q (g i j) H
def rU(g:Int->V):V->Hp->VK->Prop:=λ x H Q=>∃ i,x=.int i/\Q (g i) H
section
variable {X:Cx}{a b c:Expr}{ta tb tc:TE}{pos:Pos}
theorem HY(ha:PE X a ta)(hb:PE X b tb){pins:List (Addr × Obj)}{s:Shared}{σ:St}{H:Hp}{R:V->V->Hp->Prop}(I:Inv X pins σ H s)
  (h:ta σ H λ x H1=>tb σ H1 λ y H2=>R x y H2) {Q:Value->Shared->Prop} {f:Value->Value->Sem Value}
  (hf:∀ v u s2 x y H2,Inv X pins σ H2 s2->bp x v->bp y u->R x y H2->wpAny (model X.prog X.w) X.A (f v u) Q X.xe s2) :
  wpAny (model X.prog X.w) X.A (eval a X.env) (λ v s₁=>wpAny (model X.prog X.w) X.A (eval b X.env) (λ u s₂=>wpAny (model X.prog X.w) X.A (f v u) Q X.xe s₂) X.xe s₁) X.xe s:=by
 refine thn (ha pins s σ H _ I h) λ v s1 ⟨x,H1,I1,r1,q1⟩=>?_;refine thn (hb pins s1 σ H1 _ I1 q1) λ u s2 ⟨y,H2,I2,r2,q2⟩=>?_;exact hf v u s2 x y H2 I2 r1 r2 q2
theorem dW{op:Operator}{r:R2}(ho:OpR X (binaryOp op) r)(ha:PE X a ta)(hb:PE X b tb):PE X (.BinOp a op b pos) (tOp r ta tb):=by
 intro pins s σ H Q I h;exact wpAny_BinOp (HY ha hb I h λ v u s2 x y H2 I2 rx ry q=>ho pins s2 σ H2 x y v u Q I2 rx ry q)
theorem qJ{op:UnaryOp}{r:V->Hp->VK->Prop}(ho:UnR X (unaryOp op) r)(ha:PE X a ta):PE X (.UnaryOp op a pos) (tUn r ta):=by
 intro pins s σ H Q I h;exact UnaryOp_ (thn (ha pins s σ H _ I h) λ v s1 ⟨x,H1,I1,r1,q1⟩=>ho pins s1 σ H1 x v Q I1 r1 q1)
theorem opI{f:Value->Value->Sem Value}{C:Int->Int->Prop}{g:Int->Int->Int}
  (rule:∀ (i j:Int) (t u:Tok) (s:Shared) (Q:Value->Shared->Prop) (E:Value->Shared->Prop),C i j->Q (.int (g i j) s.toks) { s with toks:=s.toks+1 }->wpAny (model X.prog X.w) X.A (f (.int i t) (.int j u)) Q E s) :
  OpR X f (rI C λ i j=>.int (g i j)):=by
 intro pins s σ H x y v u Q I rx ry h;obtain⟨i,j,rfl,rfl,hc,q⟩:=h;obtain⟨t,rfl⟩:=rx;obtain⟨t',rfl⟩:=ry;exact rule i j t t' s _ _ hc ⟨.int (g i j),H,I.tok _,⟨_,rfl⟩,q⟩
theorem JH{f:Value->Value->Sem Value}{g:Int->Int->Int}
  (rule:∀ (i j:Int) (t u:Tok) (s:Shared) (Q:Value->Shared->Prop) (E:Value->Shared->Prop),Q (.int (g i j) s.toks) { s with toks:=s.toks+1 }->wpAny (model X.prog X.w) X.A (f (.int i t) (.int j u)) Q E s) :
  OpR X f (rI0 λ i j=>.int (g i j)):=by
 intro pins s σ H x y v u Q I rx ry h;obtain⟨i,j,rfl,rfl,q⟩:=h;obtain⟨t,rfl⟩:=rx;obtain⟨t',rfl⟩:=ry;exact rule i j t t' s _ _ ⟨.int (g i j),H,I.tok _,⟨_,rfl⟩,q⟩
theorem Hb{f:Value->Value->Sem Value}{g:Int->Int->Bool}
  (rule:∀ (i j:Int) (t u:Tok) (s:Shared) (Q:Value->Shared->Prop) (E:Value->Shared->Prop),Q (.bool (g i j)) s->wpAny (model X.prog X.w) X.A (f (.int i t) (.int j u)) Q E s) :
  OpR X f (rI0 λ i j=>.bl (g i j)):=by
 intro pins s σ H x y v u Q I rx ry h;obtain⟨i,j,rfl,rfl,q⟩:=h;obtain⟨t,rfl⟩:=rx;obtain⟨t',rfl⟩:=ry;exact rule i j t t' s _ _ ⟨.bl (g i j),H,I,rfl,q⟩
def Ic(i j:Int):Prop:=0 < j/\j < 1073741824
def Ib(i j:Int):Prop:=0<=j/\j<=1000000/\i.natAbs < 2 ^ 64
def gS(i j:Int):Prop:=(-(2 ^ 64) < i/\i < 2 ^ 64)\/(-(2 ^ 64) < j/\j < 2 ^ 64)
theorem gS.ok{i j:Int}(h:gS i j):IntMulOk i j:=by
 rcases h with ⟨h1,h2⟩|⟨h1,h2⟩
 ·exact .of_left (intBits_le_64 h1 h2)
 ·exact .of_right (intBits_le_64 h1 h2)
theorem o7:OpR X (binaryOp .Add) (rI0 λ i j=>.int (i+j)):=JH λ _ _ _ _ _ _ _ q=>add_int q
theorem E5:OpR X (binaryOp .Sub) (rI0 λ i j=>.int (i - j)):=JH λ _ _ _ _ _ _ _ q=>sub_int q
theorem gm:OpR X (binaryOp .Mult) (rI gS λ i j=>.int (i * j)):=opI λ _ _ _ _ _ _ _ hc q=>mul_int q hc.ok
theorem BW:OpR X (binaryOp .FloorDiv) (rI Ic λ i j=>.int (i / j)):=opI λ i j _ _ _ _ _ hc q=>by
 have h1:(0:Int) < j:=hc.1;have h2:j < 1073741824:=hc.2;exact floordiv_int (by omega) (by rw [Me i (by omega)];exact q) (.inl (PyProof.noPylong_small (by omega)))
theorem gY:OpR X (binaryOp .Mod) (rI (λ _ j=>0 < j) λ i j=>.int (i % j)):=opI λ i j _ _ _ _ _ hc q=>by
 have h1:(0:Int) < j:=hc;exact mod_int' (by omega) (by rw [Int.fmod_eq_emod_of_nonneg i (by omega)];exact q)
theorem E6:OpR X (binaryOp .Pow) (rI Ib λ i j=>.int (i ^ j.toNat)):=opI λ _ _ _ _ _ _ _ hc q=>pow_int_small hc.1 hc.2.1 hc.2.2 q
theorem unI{f:Value->Sem Value}{g:Int->Int}
  (rule:∀ (i:Int) (t:Tok) (s:Shared) (Q:Value->Shared->Prop) (E:Value->Shared->Prop),Q (.int (g i) s.toks) { s with toks:=s.toks+1 }->wpAny (model X.prog X.w) X.A (f (.int i t)) Q E s) :
  UnR X f (rU λ i=>.int (g i)):=by
 intro pins s σ H x v Q I rx h;obtain⟨i,rfl,q⟩:=h;obtain⟨t,rfl⟩:=rx;exact rule i t s _ _ ⟨.int (g i),H,I.tok _,⟨_,rfl⟩,q⟩
theorem ED:UnR X (unaryOp .USub) (rU λ i=>.int (-i)):=unI λ _ _ _ _ _ q=>neg_int q
end
def DM:V->V->Bool
 | .non,.non=>true | .non,.int _=>true | .int _,.non=>true | .non,.bl _=>true | .bl _,.non=>true | .non,.str _=>true | .str _,.non=>true
 | .int _,.int _=>true | .bl _,.bl _=>true | .str _,.str _=>true | .byt _,.byt _=>true
 | .int _,.str _=>true | .str _,.int _=>true | .bl _,.str _=>true | .str _,.bl _=>true
 | _,_=>false
def rEq:R2:=λ x y H Q=>DM x y=true/\Q (.bl (decide (x=y))) H
def rNe:R2:=λ x y H Q=>DM x y=true/\Q (.bl (!decide (x=y))) H
theorem vc{i j:Int}:decide (V.int i=V.int j)=(i == j):=by
 rw [M4];simp
theorem Ay{i j:Bool}:decide (V.bl i=V.bl j)=(i == j):=by
 rw [M4];simp
theorem va{i j:Str}:decide (V.str i=V.str j)=(i == j):=by
 rw [M4];simp
theorem vd{i j:Array UInt8}:decide (V.byt i=V.byt j)=(i.toList == j.toList):=by
 rw [M4];cases i;cases j;simp
section
variable {X:Cx}{a b c:Expr}{ta tb tc:TE}{pos:Pos}
theorem aG{pins:List (Addr × Obj)}{σ:St}{H:Hp}{s:Shared}{Q:VK}{k k':Bool}(I:Inv X pins σ H s)(q:Q (.bl k) H)(e:k=k'):EP X pins σ Q (.bool k') s:=by
 subst e;exact⟨.bl k,H,I,rfl,q⟩
theorem Ip:OpR X (compareOp .Eq) rEq:=by
 intro pins s σ H x y v u Q I rx ry h;obtain⟨hs,q⟩:=h
 cases x with
 | non=>
  cases rx
  cases y with
  | non=>cases ry;exact PySem.EqNone.eq_none_none (aG I q (by simp))
  | bl j=>cases ry;exact PySem.EqNone.eq_none_bool (aG I q (by simp))
  | int j=>obtain⟨t',rfl⟩:=ry;exact PySem.EqNone.eq_none_int (aG I q (by simp))
  | str j=>obtain⟨t',rfl⟩:=ry;exact PySem.EqNone.eq_none_str (aG I q (by simp))
  | _=>exact absurd (show false=true from hs) Lg
 | bl i=>
  cases rx
  cases y with
  | non=>cases ry;exact PySem.EqNone.eq_bool_none (aG I q (by simp))
  | bl j=>cases ry;exact eq_bool (aG I q Ay)
  | str j=>obtain⟨t',rfl⟩:=ry;exact PySem.EqMixed.eq_bool_str (aG I q (by simp))
  | _=>exact absurd (show false=true from hs) Lg
 | int i=>
  obtain⟨t,rfl⟩:=rx
  cases y with
  | non=>cases ry;exact PySem.EqNone.eq_int_none (aG I q (by simp))
  | int j=>obtain⟨t',rfl⟩:=ry;exact eq_int (aG I q vc)
  | str j=>obtain⟨t',rfl⟩:=ry;exact PySem.EqMixed.eq_int_str (aG I q (by simp))
  | _=>exact absurd (show false=true from hs) Lg
 | str i=>
  obtain⟨t,rfl⟩:=rx
  cases y with
  | non=>cases ry;exact PySem.EqNone.eq_str_none (aG I q (by simp))
  | bl j=>cases ry;exact PySem.EqMixed.eq_str_bool (aG I q (by simp))
  | int j=>obtain⟨t',rfl⟩:=ry;exact PySem.EqMixed.eq_str_int (aG I q (by simp))
  | str j=>obtain⟨t',rfl⟩:=ry;exact eq_str (aG I q va)
  | _=>exact absurd (show false=true from hs) Lg
 | byt i=>
  obtain⟨t,rfl⟩:=rx
  cases y with
  | byt j=>obtain⟨t',rfl⟩:=ry;exact W.eq_bytes (aG I q vd)
  | _=>exact absurd (show false=true from hs) Lg
 | _=>cases y<;>exact absurd (show false=true from hs) Lg
theorem Il:OpR X (compareOp .NotEq) rNe:=by
 intro pins s σ H x y v u Q I rx ry h;obtain⟨hs,q⟩:=h
 cases x with
 | non=>
  cases rx
  cases y with
  | non=>cases ry;exact PySem.EqNone.ne_none_none (aG I q (by simp))
  | bl j=>cases ry;exact PySem.EqNone.ne_none_bool (aG I q (by simp))
  | int j=>obtain⟨t',rfl⟩:=ry;exact PySem.EqNone.ne_none_int (aG I q (by simp))
  | str j=>obtain⟨t',rfl⟩:=ry;exact PySem.EqNone.ne_none_str (aG I q (by simp))
  | _=>exact absurd (show false=true from hs) Lg
 | bl i=>
  cases rx
  cases y with
  | non=>cases ry;exact PySem.EqNone.ne_bool_none (aG I q (by simp))
  | bl j=>cases ry;exact ne_bool (aG I q (L6 not Ay))
  | str j=>obtain⟨t',rfl⟩:=ry;exact PySem.EqMixed.ne_bool_str (aG I q (by simp))
  | _=>exact absurd (show false=true from hs) Lg
 | int i=>
  obtain⟨t,rfl⟩:=rx
  cases y with
  | non=>cases ry;exact PySem.EqNone.ne_int_none (aG I q (by simp))
  | int j=>obtain⟨t',rfl⟩:=ry;exact ne_int (aG I q (L6 not vc))
  | str j=>obtain⟨t',rfl⟩:=ry;exact PySem.EqMixed.ne_int_str (aG I q (by simp))
  | _=>exact absurd (show false=true from hs) Lg
 | str i=>
  obtain⟨t,rfl⟩:=rx
  cases y with
  | non=>cases ry;exact PySem.EqNone.ne_str_none (aG I q (by simp))
  | bl j=>cases ry;exact PySem.EqMixed.ne_str_bool (aG I q (by simp))
  | int j=>obtain⟨t',rfl⟩:=ry;exact PySem.EqMixed.ne_str_int (aG I q (by simp))
  | str j=>obtain⟨t',rfl⟩:=ry;exact ne_str (aG I q (L6 not va))
  | _=>exact absurd (show false=true from hs) Lg
 | byt i=>
  obtain⟨t,rfl⟩:=rx
  cases y with
  | byt j=>obtain⟨t',rfl⟩:=ry;exact W.ne_bytes (aG I q (L6 not vd))
  | _=>exact absurd (show false=true from hs) Lg
 | _=>cases y<;>exact absurd (show false=true from hs) Lg
theorem Eg:OpR X (compareOp .Lt) (rI0 λ i j=>.bl (decide (i < j))):=Hb λ _ _ _ _ _ _ _ q=>lt_int q
theorem Im:OpR X (compareOp .LtE) (rI0 λ i j=>.bl (decide (i<=j))):=Hb λ _ _ _ _ _ _ _ q=>le_int q
theorem Eh:OpR X (compareOp .Gt) (rI0 λ i j=>.bl (decide (j < i))):=Hb λ _ _ _ _ _ _ _ q=>gt_int q
theorem Io:OpR X (compareOp .GtE) (rI0 λ i j=>.bl (decide (j<=i))):=Hb λ _ _ _ _ _ _ _ q=>ge_int q
theorem E8:OpR X (compareOp .Is) (λ x y H Q=>y=.non/\Q (.bl (decide (x=.non))) H):=by
 intro pins s σ H x y v u Q I rx ry h;obtain⟨rfl,q⟩:=h;cases ry;refine is_none_gen (aG I q ?_)
 cases x<;>first
  | (cases rx;rfl)
  | (obtain⟨t,rfl⟩:=rx;rfl)
theorem BV:OpR X (compareOp .IsNot) (λ x y H Q=>y=.non/\Q (.bl (!decide (x=.non))) H):=by
 intro pins s σ H x y v u Q I rx ry h;obtain⟨rfl,q⟩:=h;cases ry;refine isnot_none_gen (aG I q ?_)
 cases x<;>first
  | (cases rx;rfl)
  | (obtain⟨t,rfl⟩:=rx;rfl)
theorem OpR.or{f:Value->Value->Sem Value}{r r':R2}(h:OpR X f r)(h':OpR X f r'):OpR X f (λ x y H Q=>r x y H Q\/r' x y H Q):=by
 intro pins s σ H x y v u Q I rx ry q
 rcases q with q|q
 ·exact h pins s σ H x y v u Q I rx ry q
 ·exact h' pins s σ H x y v u Q I rx ry q
theorem ai(b:Expr){op:CmpOp}(h:op ≠ .In:=by decide)(h2:op ≠ .NotIn:=by decide):behindInMarks op b=false:=by
 have e1:(op == CmpOp.In)=false:=by cases op<;>first|rfl|exact absurd rfl h
 have e2:(op == CmpOp.NotIn)=false:=by cases op<;>first|rfl|exact absurd rfl h2
 cases b<;>simp [behindInMarks,e1,e2]
theorem BN{op:CmpOp}{r:R2}(ho:OpR X (compareOp op) r)(ha:PE X a ta)(hb:PE X b tb)(hm:behindInMarks op b=false):PE X (.Compare a [op] [b] pos) (tOp r ta tb):=by
 intro pins s σ H Q I h;exact wpAny_Compare1 (HY ha hb I h λ v u s2 x y H2 I2 rx ry q=>ho pins s2 σ H2 x y v u Q I2 rx ry q) hm
def xx(t:TE):TT:=λ σ H Q=>t σ H λ x H'=>∃ k,x=.bl k/\Q k H'
theorem nV{op:CmpOp}{r:R2}(ho:OpR X (compareOp op) r)(ha:PE X a ta)(hb:PE X b tb)(hm:behindInMarks op b=false):PT X (.Compare a [op] [b] pos) (xx (tOp r ta tb)):=by
 intro pins s σ H Q I h
 refine wpAny_isTrue_Compare1 (thn (ha pins s σ H _ I h) λ v s1 ⟨x,H1,I1,r1,q1⟩=>thn (hb pins s1 σ H1 _ I1 q1) λ u s2 ⟨y,H2,I2,r2,q2⟩=>
  thn (ho pins s2 σ H2 x y v u _ I2 r1 r2 q2) λ c s3 ⟨z,H3,I3,r3,k,e,q3⟩=>?_) hm
 subst e;cases r3;exact LX ⟨H3,I3,q3⟩
def tM(r r':R2)(ta tb tc:TE):TE:=λ σ H Q=>ta σ H λ x H1=>tb σ H1 λ y H2=>r x y H2 λ z H3=>∃ k,z=.bl k /\
 (if k=true then tc σ H3 λ w' H4=>r' y w' H4 Q else Q (.bl false) H3)
theorem yh{op op':CmpOp}{r r':R2}(ho:OpR X (compareOp op) r)(ho':OpR X (compareOp op') r')(ha:PE X a ta)(hb:PE X b tb)(hc:PE X c tc)
  (hm:lastMarks [op,op'] [b,c]=false:=by with_unfolding_all rfl):PE X (.Compare a [op,op'] [b,c] pos) (tM r r' ta tb tc):=by
 intro pins s σ H Q I h
 refine Compare_chain (thn (ha pins s σ H _ I h) λ v s1 ⟨x,H1,I1,r1,q1⟩=>chain_link (thn (hb pins s1 σ H1 _ I1 q1) λ u s2 ⟨y,H2,I2,r2,q2⟩=>
  thn (ho pins s2 σ H2 x y v u _ I2 r1 r2 q2) λ d s3 ⟨z,H3,I3,r3,k,e,q3⟩=>?_)) hm
 subst e;cases r3;refine LX ?_
 cases k with
 | false=>exact ite_ff ⟨.bl false,H3,I3,rfl,q3⟩
 | true=>exact ite_tt (chain_last (thn (hc pins s3 σ H3 _ I3 q3) λ w' s4 ⟨z',H4,I4,r4,q4⟩=>ho' pins s4 σ H4 y z' u w' Q I4 r2 r4 q4))
theorem xZ{op op':CmpOp}{r r':R2}(ho:OpR X (compareOp op) r)(ho':OpR X (compareOp op') r')(ha:PE X a ta)(hb:PE X b tb)(hc:PE X c tc)
  (hm:lastMarks [op,op'] [b,c]=false:=by with_unfolding_all rfl):PT X (.Compare a [op,op'] [b,c] pos) (xx (tM r r' ta tb tc)):=by
 intro pins s σ H Q I h
 refine isTrue_chain (thn (ha pins s σ H _ I h) λ v s1 ⟨x,H1,I1,r1,q1⟩=>test_link (thn (hb pins s1 σ H1 _ I1 q1) λ u s2 ⟨y,H2,I2,r2,q2⟩=>
  thn (ho pins s2 σ H2 x y v u _ I2 r1 r2 q2) λ d s3 ⟨z,H3,I3,r3,k,e,q3⟩=>?_)) hm
 subst e;cases r3;refine LX ?_
 cases k with
 | false=>
  obtain⟨k',e',q'⟩:=q3;cases e';exact ite_ff ⟨H3,I3,q'⟩
 | true=>
  refine ite_tt (test_last (thn (hc pins s3 σ H3 _ I3 q3) λ w' s4 ⟨z',H4,I4,r4,q4⟩=>thn (ho' pins s4 σ H4 y z' u w' _ I4 r2 r4 q4) λ d' s5 ⟨z2,H5,I5,r5,k2,e2,q5⟩=>?_));subst e2;cases r5;exact LX ⟨H5,I5,q5⟩
theorem lN:(sizeLine:Nat) < 2 ^ 63:=by rw [sizeLine_eq];decide
theorem sS{x:V}{us:List Value}(r:aT [x] us):∃ u,us=[u]/\bp x u:=by
 cases r with
 | cons r1 r2=>cases r2;exact⟨_,rfl,r1⟩
theorem AL{x y:V}{us:List Value}(r:aT [x,y] us):∃ u w',us=[u,w']/\bp x u/\bp y w':=by
 cases r with
 | cons r1 r2=>
  cases r2 with
  | cons r3 r4=>cases r4;exact⟨_,_,rfl,r1,r3⟩
theorem zI:bK X (.builtin "abs") (λ xs H Q=>∃ i,xs=[.int i]/\Q (.int (if i < 0 then -i else i)) H):=by
 intro pins s σ H xs us Q I r h;obtain⟨i,rfl,q⟩:=h;obtain⟨u,rfl,t,rfl⟩:=sS r;exact call_abs_int λ u tk=>⟨.int (if i < 0 then -i else i),H,I.tok _,⟨_,rfl⟩,q⟩
theorem xc(hc:X.calm=true):bK X (.builtin "max") (λ xs H Q=>∃ i j,xs=[.int i,.int j]/\Q (.int (if j > i then j else i)) H):=by
 intro pins s σ H xs us Q I r h;obtain⟨i,j,rfl,q⟩:=h;obtain⟨u,w',rfl,⟨t,rfl⟩,⟨t',rfl⟩⟩:=AL r;refine max_two_ints (I.ok.hd hc) λ h' tk k=>⟨_,H,I.kept k,?_,q⟩
 by_cases hj:j > i
 ·rw [K7 hj,K7 hj];exact⟨_,rfl⟩
 ·rw [K5 hj,K5 hj];exact⟨_,rfl⟩
theorem xb(hc:X.calm=true):bK X (.builtin "min") (λ xs H Q=>∃ i j,xs=[.int i,.int j]/\Q (.int (if j < i then j else i)) H):=by
 intro pins s σ H xs us Q I r h;obtain⟨i,j,rfl,q⟩:=h;obtain⟨u,w',rfl,⟨t,rfl⟩,⟨t',rfl⟩⟩:=AL r;refine min_two_ints (I.ok.hd hc) λ h' tk k=>⟨_,H,I.kept k,?_,q⟩
 by_cases hj:j < i
 ·rw [K7 hj,K7 hj];exact⟨_,rfl⟩
 ·rw [K5 hj,K5 hj];exact⟨_,rfl⟩
end
structure AI(h:Heap)(x dx C:Addr)(mA:Str->Option Value):Prop where
 obj:h.get? x=some (W.instObj C dx)
 ns:h.Ns1 dx mA
 ne:dx ≠ x
theorem wu{h:Heap}{dx:Addr}{mA:Str->Option Value}(n:h.Ns1 dx mA):∃ od,h.get? dx=some od/\∀ name,W.lookIn name od=some (mA name):=by
 obtain⟨o,es,ep,ho,hd,hk,_,hm⟩:=n;refine⟨o,ho,λ name=>?_⟩;have e:=hm name;unfold nsFind findBy at e;rw [←Array.find?_toList] at e;unfold W.lookIn;rw [hd];dsimp only;split
 ·rename_i y q;rw [q] at e;exact L6 some e
 ·rename_i q;rw [q] at e
  have a:es.toList.any (·.refKey)=false:=by
   rw [List.any_eq_false];intro y hy;obtain⟨z,t,hkey⟩:=hk y (Array.mem_toList_iff.mp hy);simp [DictEntry.refKey,hkey]
  have a':¬ es.toList.any (·.refKey)=true:=by rw [a];exact Lg
  rw [K5 a'];exact L6 some e
theorem AI.look{h:Heap}{x dx C:Addr}{mA:Str->Option Value}(I:AI h x dx C mA):∃ od,W.InstAt h x (W.instObj C dx) C (some od)/\∀ name,W.lookIn name od=some (mA name):=
 let ⟨od,ho,hl⟩:=wu I.ns
 ⟨od,⟨I.obj,rfl,rfl,ho⟩,hl⟩
section
variable {prog:Program}{w:World}{A:Around}{E:Value->Shared->Prop}{s:Shared}{K:PySem.W.Frag}{x dx C f:Addr}{mA:Str->Option Value}{name:Str}{v:Value}
theorem Dh{expr:Bool}{Q:Value->Shared->Prop}(X:K.In s.heap)(I:AI s.heap x dx C mA)(hg:W.plainGet K C name=true)(hh:W.hasDictIn K C=true)
  (ha:W.findIn K (.ref C) name=some none) (hv:mA name=some v) (hv':W.handedIn v=true) (h:Q v { s with toks:=s.toks+1 }) :
  wpAny (model prog w) A (getAttr (.ref x) name expr) Q E s:=by
 obtain⟨od,J,hl⟩:=I.look;exact W.get_value X J (W.plainGet_of hg).1 (W.findObj_own hh ha rfl (by rw [hl,hv])) hv' h
theorem zd{pl:Sem Bool}{Q:Value × List Value->Shared->Prop}(X:K.In s.heap)(I:AI s.heap x dx C mA)(hg:W.plainGet K C name=true)
  (hf:W.findIn K (.ref C) name=some (some (.ref f))) (ht:W.isFn K (.ref f)=true) (hv:mA name=none) (h:Q (.ref f,[.ref x]) s) :
  wpAny (model prog w) A (getMethod (.ref x) name pl) Q E s:=by
 obtain⟨od,J,hl⟩:=I.look;exact W.method_fn X J (W.plainGet_of hg).1 (W.plainGet_of hg).2 hf (NU.mp ht) (by show (W.lookIn name od).map (·.isSome)=some false;rw [hl,hv];rfl) h
theorem Bz{ns:List Str}{Q:Unit->Shared->Prop}(X:K.In s.heap)(I:AI s.heap x dx C mA)
  (hs:W.findIn K (.ref C) "__setattr__"=some (some (.builtin "object.__setattr__"))) (hp:W.plainOver K C=true) (ht:W.takerIn K C name=some none) (hh:W.hasDictIn K C=true)
  (hw:PySem.Within mA ns) (hsz:ns.length<=sizeLine)
  (h:∀ h',AI h' x dx C (λ y=>if y=name then some v else mA y)->Heap.SameBut dx s.heap h'->Q () { s with heap:=h',toks:=s.toks+2 }) :
  wpAny (model prog w) A (setAttr (.ref x) name v) Q E s:=by
 obtain⟨od,J,hl⟩:=I.look;refine W.set_plain X J hs (W.osa_open (s:={ s with toks:=s.toks+1 }) (r:=none) X J hp ht λ b=>?_);obtain⟨cd,hc,hd'⟩:=W.any_some hh;have hx:s.heap.get? x=some ⟨.ref C,some dx,.plain,#[]⟩:=I.obj;refine KW (K8 (KW (KW (wpAny_loadPart hx (KW (W.Looks.here (s:={ s with toks:=s.toks+1 }) (W.looks_clsIn X hc) ?_))))));rw [hd'];refine K8 (a:=some dx) (KW (K8 (KW ?_)));refine wpAny_nsSet1 (s:={ s with toks:=s.toks+1 }) I.ns λ h' hn2 hs2=>?_;obtain⟨oD,esD,epD,hoD,hdD,hcD⟩:=hn2.count (PySem.Within.cons name v hw);refine KW (wpAny_lookBehind hoD (by rw [hdD];exact pastItsLine_dict (LU hcD (by rw [Lr];omega))) ?_);exact K8 (h _ ⟨(hs2.2 _ (Lw I.ne)).trans I.obj,hn2,I.ne⟩ hs2)
theorem yr{R:Result->Shared->Prop}{vs:List Value}{kw:List (Str × Value)}(X:K.In s.heap)(hm:W.makesIn K C=true)
  (hi:W.findIn K (.ref C) "__init__"=some (some (.ref f))) (hf:W.typeIn K (.ref f)=some (.type "function"))
  (h:codeAny (model prog w) (A.under (.builtin "type.__call__" ⟨.ref C::vs,kw⟩)) (.call (.ref f) ⟨.ref (s.heap.objs.size+1)::vs,kw⟩) (W.InitBack (s.heap.objs.size+1) R)
   { s with heap:=(s.heap.push W.emptyDict).push (W.instObj C s.heap.objs.size) }) :
  codeAny (model prog w) A (.call (.ref C) ⟨vs,kw⟩) R s:=by
 obtain⟨hh,g,d,t,os⟩:=s;exact W.make_core (W.makes_of X hm) (W.looks_findIn X hi) (λ self=>W.bind_fn X self hf) (.inl rfl) h
end
def eE(f:Str)(v:V):List (Str × V)->List (Str × V)
 | []=>[(f,v)]
 | (g,x)::r=>if g=f then (g,v)::r else (g,x)::eE f v r
theorem aI(f g:Str)(v:V):∀ fs:List (Str × V),(eE f v fs).lookup g=if g=f then some v else fs.lookup g
 | []=>by
  show List.lookup g [(f,v)]=_
  by_cases h:g=f
  ·have hb:(g == f)=true:=NU.mpr h;simp only [List.lookup,hb,K7 h]
  ·have hb:(g == f)=false:=MI.mpr h;simp only [List.lookup,hb,K5 h]
 | (k,x)::r=>by
  have ih:=aI f g v r;rw [show eE f v ((k,x)::r)=(if k=f then (k,v)::r else (k,x)::eE f v r) from rfl]
  by_cases hk:k=f
  ·rw [K7 hk]
   by_cases h:g=k
   ·have hb:(g == k)=true:=NU.mpr h;simp only [List.lookup,hb,K7 (h.trans hk)]
   ·have hb:(g == k)=false:=MI.mpr h;simp only [List.lookup,hb,K5 (λ e:g=f=>h (e.trans hk.symm))]
  ·rw [K5 hk]
   by_cases h:g=k
   ·have hb:(g == k)=true:=NU.mpr h;simp only [List.lookup,hb,K5 (λ e:g=f=>hk (h.symm.trans e))]
   ·have hb:(g == k)=false:=MI.mpr h;simp only [List.lookup,hb];exact ih
theorem iu(f:Str)(v:V):∀ fs:List (Str × V),f∈(eE f v fs).map (·.1)/\∀ g,g∈fs.map (·.1)->g∈(eE f v fs).map (·.1)
 | []=>⟨by simp [eE],λ g h=>by simp at h⟩
 | (k,x)::r=>by
  obtain⟨i1,i2⟩:=iu f v r;rw [show eE f v ((k,x)::r)=(if k=f then (k,v)::r else (k,x)::eE f v r) from rfl]
  by_cases hk:k=f
  ·rw [K7 hk];subst hk;exact⟨by simp,λ g h=>by simpa using h⟩
  ·rw [K5 hk];refine⟨?_,λ g h=>?_⟩
   ·rw [LG];exact KZ _ i1
   ·rw [LG] at h ⊢
    rcases Ls.mp h with e|e
    ·exact Ls.mpr (.inl e)
    ·exact KZ _ (i2 g e)
theorem iK(f:Str)(v:V):∀ fs:List (Str × V),(eE f v fs).length<=fs.length+1
 | []=>by simp [eE]
 | (k,x)::r=>by
  have ih:=iK f v r;rw [show eE f v ((k,x)::r)=(if k=f then (k,v)::r else (k,x)::eE f v r) from rfl]
  by_cases hk:k=f
  ·rw [K7 hk,Lr,Lr];omega
  ·rw [K5 hk,Lr,Lr];omega
theorem lG.some_of{v:V}{o:Option Value}(r:lG (some v) o):∃ u,o=some u/\bp v u:=by
 cases o with
 | none=>exact(show False from r).elim
 | some u=>exact⟨u,rfl,r⟩
theorem lG.none_of{o:Option Value}(r:lG none o):o=none:=by
 cases o with
 | none=>rfl
 | some u=>exact(show False from r).elim
theorem wV{v:V}{u:Value}(r:bp v u):W.handedIn u=true:=by
 cases v with
 | non=>cases (show u=Value.none from r);rfl
 | bl b=>cases (show u=Value.bool b from r);rfl
 | int i=>obtain⟨t,e⟩:=(show ∃ t,u=Value.int i t from r);cases e;rfl
 | str x=>obtain⟨t,e⟩:=(show ∃ t,u=Value.str x t from r);cases e;rfl
 | byt b=>obtain⟨t,e⟩:=(show ∃ t,u=Value.bytes b t from r);cases e;rfl
 | flt b=>obtain⟨t,e⟩:=(show ∃ t,u=Value.float b t from r);cases e;rfl
 | ref a=>cases (show u=Value.ref a from r);rfl
 | ty n=>cases (show u=Value.type n from r);rfl
section
variable {P:Program}{w:World}{H H':Hp}{h h':Heap}{a C dx:Addr}{fs fs':List (Str × V)}
theorem j9(hok:HOk P w H h)(e:H a=some (.ins C dx fs)):∃ mA,AI h a dx C mA/\(∀ f,lG (fs.lookup f) (mA f))/\PySem.Within mA (fs.map (·.1))/\fs.length<=1000/\H dx=some (.own a):=by
 obtain⟨d,z,ne,ob,mA,n,r,q⟩:=(show bV P w H h a (.ins C dx fs) from hok a _ e);exact⟨mA,⟨ob,n,ne⟩,r,q,z,d⟩
end
structure Cls(K:W.Frag)(C:Addr):Prop where
 pg:W.plainGet K C Str.empty=true
 hd:W.hasDictIn K C=true
 po:W.plainOver K C=true
 sa:W.findIn K (.ref C) "__setattr__"=some (some (.builtin "object.__setattr__"))
theorem Cls.get{K:W.Frag}{C:Addr}(c:Cls K C)(f:Str):W.plainGet K C f=true:=c.pg
def dP(K:W.Frag)(C:Addr)(f:Str):Prop:=W.findIn K (.ref C) f=some none
theorem dP.taker{K:W.Frag}{C:Addr}{f:Str}(n:dP K C f):W.takerIn K C f=some none:=by
 unfold W.takerIn;rw [show W.findIn K (.ref C) f=some none from n];rfl
structure AJ(K:W.Frag)(C:Addr)(m:Str)(f:Addr):Prop where
 at_:W.findIn K (.ref C) m=some (some (.ref f))
 fn:W.isFn K (.ref f)=true
 kp:W.keepIn K (.ref f)=true
section
variable {X:Cx}{pins:List (Addr × Obj)}{σ:St}{H:Hp}{s:Shared}{a C dx:Addr}{fs:List (Str × V)}{f:Str}{v:V}{A:Around}{E:Value->Shared->Prop}
theorem rS{b:Bool}{Q:Value->Shared->Prop}(I:Inv X pins σ H s)(e:H a=some (.ins C dx fs))(c:Cls X.K C)(n:dP X.K C f)(l:fs.lookup f=some v)
  (h:∀ u s',Inv X pins σ H s'->bp v u->Q u s'):wpAny (model X.prog X.w) A (getAttr (.ref a) f b) Q E s:=by
 obtain⟨mA,O,r,_,_,_⟩:=j9 I.hok e;obtain⟨u,hu,ru⟩:=lG.some_of (v:=v) (o:=mA f) (by rw [←l];exact r f);exact Dh I.kIn O (c.get f) c.hd n hu (wV ru) (h u _ (I.tok _) ru)
theorem rR{m:Str}{g:Addr}{pl:Sem Bool}{Q:Value × List Value->Shared->Prop}(I:Inv X pins σ H s)(e:H a=some (.ins C dx fs))(c:Cls X.K C)(k:AJ X.K C m g)(l:fs.lookup m=none)
  (h:Q (.ref g,[.ref a]) s):wpAny (model X.prog X.w) A (getMethod (.ref a) m pl) Q E s:=by
 obtain⟨mA,O,r,_,_,_⟩:=j9 I.hok e;have hn:mA m=none:=lG.none_of (by rw [←l];exact r m);exact zd I.kIn O (c.get m) k.at_ k.fn hn h
theorem qP{y:V}{u:Value}{Q:Unit->Shared->Prop}(I:Inv X pins σ H s)(e:H a=some (.ins C dx fs))(c:Cls X.K C)(n:dP X.K C f)(hl:fs.length < 1000)(ry:bp y u)
  (h:∀ s',Inv X pins σ (upd H a (.ins C dx (eE f y fs))) s'->Q () s'):wpAny (model X.prog X.w) A (setAttr (.ref a) f u) Q E s:=by
 obtain⟨mA,O,r,wi,_,ho⟩:=j9 I.hok e;have hz:(fs.map (·.1)).length<=sizeLine:=by rw [K2,sizeLine_eq];omega
 refine Bz I.kIn O c.sa c.po n.taker c.hd wi hz λ h' O' sb=>h _ ?_;have hd:∃ o,h'.get? dx=some o:=let ⟨o,_,_,e',_⟩:=O'.ns;⟨o,e'⟩;refine I.write (x:=a) (e:=dx) (by rw [e];exact True.intro) (.inr ho) (λ b q hb z=>(sb.2 b hb).trans z) hd ?_;refine⟨by rw [ae O.ne];exact ho,?_,O.ne,O'.obj,_,O'.ns,λ g=>?_,λ g hg=>?_⟩
 ·have:=iK f y fs;omega
 ·show lG ((eE f y fs).lookup g) (if g=f then some u else mA g)
  rw [aI]
  by_cases q:g=f
  ·rw [K7 q,K7 q];exact ry
  ·rw [K5 q,K5 q];exact r g
 ·by_cases q:g=f
  ·rw [q];exact(iu f y fs).1
  ·refine(iu f y fs).2 g (wi g λ z=>hg ?_)
   show (if g=f then some u else mA g)=none
   rw [K5 q];exact z
theorem Inv.made(I:Inv X pins σ H s):Inv X pins σ (upd (upd H s.heap.objs.size (.own (s.heap.objs.size+1))) (s.heap.objs.size+1) (.ins C s.heap.objs.size []))
  { s with heap:=(s.heap.push W.emptyDict).push (W.instObj C s.heap.objs.size) }:=by
 have e1:(s.heap.push W.emptyDict).get? s.heap.objs.size=some W.emptyDict:=La s.heap rfl
 have e2:((s.heap.push W.emptyDict).push (W.instObj C s.heap.objs.size)).get? (s.heap.objs.size+1)=some (W.instObj C s.heap.objs.size):=by
  have:=La (s.heap.push W.emptyDict) (o:=W.instObj C s.heap.objs.size) rfl
  rwa [L4] at this
 have e3:(s.heap.push W.emptyDict).Ns s.heap.objs.size (λ _=>none):=⟨W.emptyDict,#[],_,e1,rfl,(λ e he=>absurd he (by simp)),λ _=>rfl⟩;have I1:=I.laid (a:=s.heap.objs.size) (o:=.own (s.heap.objs.size+1)) (h':=s.heap.push W.emptyDict) (t':=s.toks) (λ b u q=>KY _ q) (K3 _) ⟨_,e1⟩;refine I1.laid (a:=s.heap.objs.size+1) (o:=.ins C s.heap.objs.size []) (t':=s.toks) (λ b u q=>KY _ q) (Nat.le_of_eq (L4 _ _)) ?_;have ne:s.heap.objs.size ≠ s.heap.objs.size+1:=Lf (MH _);refine⟨by rw [ae ne,ah],LJ _,ne,e2,λ _=>none,(Heap.Ns1.of_empty e3).at λ o q=>KY _ q,λ _=>True.intro,λ y hy=>absurd rfl hy⟩
theorem DB{prog:Program}{w:World}{env:Env}{e:Expr}{f:Str}{pos:Pos}{s:Shared}{Q:Value->Shared->Prop}(hb:attributeBase e f env (eval e env)=eval e env)
  (h:wpAny (model prog w) A (eval e env) (λ o s₁=>wpAny (model prog w) A (getAttr o f true) Q E s₁) E s):wpAny (model prog w) A (eval (.Attribute e f pos) env) Q E s:=
 Attribute_any_ h (by rw [arm_eval_Attribute,hb])
end
section
variable {X:Cx}{o e value:Expr}{f:Str}{pos pos' tpos:Pos}{ta tv:TE}
end
section
variable {X:Cx}{pins:List (Addr × Obj)}{σ:St}{H:Hp}{s:Shared}{A:Around}{E:Value->Shared->Prop}{Q:Value->Shared->Prop}{c:Value}{b:Bool}
inductive oU (K:PySem.W.Frag) (H:Hp):V->Value->Prop where
 | non:oU K H .non (.type "NoneType")
 | bl (x:Bool):oU K H (.bl x) (.type "bool")
 | int (i:Int):oU K H (.int i) (.type "int")
 | str (x:Str):oU K H (.str x) (.type "str")
 | flt (x:UInt64):oU K H (.flt x) (.type "float")
 | lst {a:Addr} {xs:List V} (e:H a=some (.lst xs)):oU K H (.ref a) (.type "list")
 | frz {a:Addr} {o:Obj} {xs:List V} (e:H a=some (.frz o (.lst xs))):oU K H (.ref a) (.type "list")
 | tup {a:Addr} {xs:List V} (e:H a=some (.tup xs)):oU K H (.ref a) (.type "tuple")
 | dK {a:Addr} {kvs:List (Key × V)} (e:H a=some (.dK kvs)):oU K H (.ref a) (.type "dict")
 | dT {a:Addr} {kvs:List (List Key × V)} (e:H a=some (.dT kvs)):oU K H (.ref a) (.type "dict")
 | ins {a C dx:Addr} {fs:List (Str × V)} (e:H a=some (.ins C dx fs)) (cl:Cls K C) (ha:PySem.W.findIn K (.ref C) "__class__"=some (some (.builtin "object.__class__")))
   (hn:PySem.W.specialIn K (.builtin "object.__class__") "__get__"=some (some (.builtin "getset_descriptor.__get__"))) (htk:PySem.W.takesIn K (.builtin "object.__class__")=some true)
   (hm:PySem.W.mroIn K C (.type "object")=some true):oU K H (.ref a) (.ref C)
theorem wQ{x:V}{u t:Value}(I:Inv X pins σ H s)(rx:bp x u)(ty:oU X.K H x t)(e:W.kitOne X.K t c=some b)(h:∀ tk,Q (.bool b) { s with toks:=tk }) :
  wpAny (model X.prog X.w) A (call (.builtin "isinstance") [u,c]) Q E s:=by
 cases ty with
 | non=>cases (show u=Value.none from rx);exact MY W.kitx_none I.kIn True.intro e (λ z=>nomatch z) h
 | bl y=>cases (show u=Value.bool y from rx);exact MY W.kitx_bool I.kIn True.intro e (λ z=>nomatch z) h
 | int i=>obtain⟨t,q⟩:=(show ∃ t,u=Value.int i t from rx);cases q;exact MY W.kitx_int I.kIn True.intro e (λ z=>nomatch z) h
 | str y=>obtain⟨t,q⟩:=(show ∃ t,u=Value.str y t from rx);cases q;exact MY W.kitx_str I.kIn True.intro e (λ z=>nomatch z) h
 | flt y=>obtain⟨t,q⟩:=(show ∃ t,u=Value.float y t from rx);cases q;exact MY W.kitx_float I.kIn True.intro e (λ z=>nomatch z) h
 | @lst a xs ea=>
  cases (show u=Value.ref a from rx);obtain⟨_,_,n,_,h1⟩:=(show bV X.prog X.w H s.heap a (.lst xs) from I.hok a _ ea);exact MY W.kitx_list I.kIn ⟨_,h1,rfl⟩ e (λ z=>nomatch z) h
 | @frz a ob xs ea=>
  cases (show u=Value.ref a from rx);obtain⟨_,_,_,n,_,h1⟩:=(show bV X.prog X.w H s.heap a (.frz ob (.lst xs)) from I.hok a _ ea);exact MY W.kitx_list I.kIn ⟨_,h1,rfl⟩ e (λ z=>nomatch z) h
 | @tup a xs ea=>
  cases (show u=Value.ref a from rx);obtain⟨_,_,_,p⟩:=(show bV X.prog X.w H s.heap a (.tup xs) from I.hok a _ ea);obtain⟨o,h1,h2,_⟩:=p;exact MY W.kitx_tuple I.kIn ⟨o,h1,h2⟩ e (λ z=>nomatch z) h
 | @dK a kvs ea=>
  cases (show u=Value.ref a from rx);obtain⟨_,_,vs,_,p⟩:=(show bV X.prog X.w H s.heap a (.dK kvs) from I.hok a _ ea);obtain⟨o,es,ep,h1,h2,_⟩:=p;exact MY W.kitx_dict I.kIn ⟨o,h1,h2.1⟩ e (λ z=>nomatch z) h
 | @dT a kvs ea=>
  cases (show u=Value.ref a from rx);obtain⟨_,_,xs,_,o,es,ep,h1,h2,_⟩:=(show bV X.prog X.w H s.heap a (.dT kvs) from I.hok a _ ea);exact MY W.kitx_dict I.kIn ⟨o,h1,h2.1⟩ e (λ z=>nomatch z) h
 | @ins a C dx fs ea cl ha hn htk hm=>
  cases (show u=Value.ref a from rx);obtain⟨mA,O,_⟩:=j9 I.hok ea;obtain⟨od,J,_⟩:=O.look;exact MY (W.kitx_own (cl.get _) cl.hd ha hn htk hm) I.kIn J e (λ z=>nomatch z) h
end
structure gE(k:Nat)(A:Around):Prop where
 hd:A.handled=none
 dp:A.depth+3 * k+5 < recursionLimit
 un:A.units+16 * k+200 < cLine
theorem gE.mono{j k:Nat}{A:Around}(r:gE k A)(h:j<=k):gE j A:=⟨r.hd,by have:=r.dp;omega,by have:=r.un;omega⟩
theorem gE.deeper{k:Nat}{A:Around}(r:gE (k+1) A)(env:Env):gE k (A.deeper env):=
 ⟨r.hd,by have:=r.dp;show A.depth+1+3 * k+5 < _;omega,by have:=r.un;show A.units+3+16 * k+200 < _;omega⟩
theorem rf{A:Around}{C:Addr}{us:List Value}{kw:List (Str × Value)}:(A.under (.builtin "type.__call__" ⟨.ref C::us,kw⟩)).depth=A.depth+1:=by
 first|rfl|simp [Around.under,Code.weight,Code.isCreation,Code.isGuard,Code.isCaller,Code.frames,Code.isFrame,guardIds]
theorem qZ{A:Around}{C:Addr}{us:List Value}{kw:List (Str × Value)}:(A.under (.builtin "type.__call__" ⟨.ref C::us,kw⟩)).units=A.units+1:=by
 first|rfl|simp [Around.under,Code.cUnits,Code.frames,Code.isFrame]
theorem gE.make{k:Nat}{A:Around}(r:gE (k+1) A)(C:Addr)(us:List Value)(kw:List (Str × Value)):gE k (A.under (.builtin "type.__call__" ⟨.ref C::us,kw⟩)):=
 ⟨r.hd,by have:=r.dp;rw [rf];omega,by have:=r.un;rw [qZ];omega⟩
theorem gE.depth{k:Nat}{A:Around}(r:gE k A):A.depth < recursionLimit:=by have:=r.dp;omega
theorem gE.units{k:Nat}{A:Around}(r:gE k A):A.units+64 < cLine:=by have:=r.un;omega
def DK:TA:=λ _ H Q=>Q [] H
def sU(ta:TE)(tr:TA):TA:=λ σ H Q=>ta σ H λ x H1=>tr σ H1 λ xs H2=>Q (x::xs) H2
section
variable {X:Cx}{e:Expr}{es:List Expr}{te:TE}{t:TA}{pos:Pos}
theorem cc:PA X [] DK:=λ _ _ _ _ H Q I h=>Calls.spliced_nil ⟨[],H,I,.nil,h⟩
theorem BS(ha:PE X e te)(hr:PA X es t)(hs:starEach (e::es) X.env=(false,eval e X.env)::starEach es X.env:=by rfl):PA X (e::es) (sU te t):=by
 intro pos pins s σ H Q I h;rw [hs]
 show wpAny _ _ (spliced ((false,eval e X.env)::backTo pos (starEach es X.env))) _ _ s
 refine Nq (thn (ha pins s σ H _ I h) λ u s1 ⟨x,H1,I1,r1,q1⟩=>?_);exact thn (hr pos pins s1 σ H1 _ I1 q1) λ us s2 ⟨xs,H2,I2,r2,q2⟩=>⟨x::xs,H2,I2,.cons r1 r2,q2⟩
end
abbrev Sp:=List V->Hp->VK->XK->Prop
abbrev CXT:=List Env->Hp->Shared->XK->Value->Shared->Prop
structure Ab(P:Program)(w:World)(K:W.Frag)(mg:Str->Option Value)(base:Heap)(A:Around)(outer:List Env)(s:Shared)(H:Hp):Prop where
 frames:A.frames=some outer
 mod:Mod K mg base
 bs:∀ b o,base.get? b=some o->s.heap.get? b=some o/\H b=none
 bsz:base.objs.size<=s.heap.objs.size
 funs:s.heap.FunFrames base outer
 frf:∀ b∈frs outer,H b=none
 hok:HOk P w H s.heap
 bare:AllBare s.gens
def CE(outer:List Env)(P:Program)(w:World)(H:Hp)(s:Shared)(Q:VK)(u:Value)(s':Shared):Prop:=
 ∃ v H',s'.os=s.os/\AllBare s'.gens/\Un (frs outer) [] H H' s.heap s'.heap/\HOk P w H' s'.heap/\bp v u/\Q v H'
def CR(CX:CXT)(outer:List Env)(P:Program)(w:World)(H:Hp)(s:Shared)(Q:VK)(E:XK)(r:Result)(s':Shared):Prop:=
 match r with
 | .ok (.ret u)=>CE outer P w H s Q u s'
 | .ok _=>False
 | .error e=>CX outer H s E e s'
structure bC(P:Program)(w:World)(K:W.Frag)(mg:Str->Option Value)(base:Heap)(CX:CXT)(k:Nat)(f:Addr)(fd:FuncData)(ps:List Str)(sp:Sp):Prop where
 len:∀ vs H Q E,sp vs H Q E->vs.length=ps.length
 run:∀ (A:Around) (outer:List Env) (s:Shared) (H:Hp) (args:Args) (us:List Value) (vs:List V) (Q:VK) (E:XK),gE k A->Ab P w K mg base A outer s H->BindsTo s fd args (ps.zip us)->aT vs us->sp vs H Q E →
  codeAny (model P w) A (.call (.ref f) args) (CR CX outer P w H s Q E) s
theorem bC.imp{P:Program}{w:World}{K:W.Frag}{mg:Str->Option Value}{base:Heap}{CX:CXT}{k:Nat}{f:Addr}{fd:FuncData}{ps:List Str}{sp sp':Sp}(F:bC P w K mg base CX k f fd ps sp)
  (h:∀ vs H Q E,sp' vs H Q E->sp vs H Q E):bC P w K mg base CX k f fd ps sp':=
 ⟨λ vs H Q E q=>F.len vs H Q E (h _ _ _ _ q),λ A outer s H args us vs Q E hr he hb hv hs=>F.run A outer s H args us vs Q E hr he hb hv (h _ _ _ _ hs)⟩
theorem Ab.make{P:Program}{w:World}{K:W.Frag}{mg:Str->Option Value}{base:Heap}{A:Around}{outer:List Env}{s:Shared}{H:Hp}(e:Ab P w K mg base A outer s H)(C:Addr)(us:List Value)(kw:List (Str × Value)) :
  Ab P w K mg base (A.under (.builtin "type.__call__" ⟨.ref C::us,kw⟩)) outer s H:=⟨by first|exact e.frames|(simpa [Around.under,Code.envs,Code.isFrame,pushEnvs] using e.frames),e.mod,e.bs,e.bsz,e.funs,e.frf,e.hok,e.bare⟩
section
variable {X:Cx}{pins:List (Addr × Obj)}{σ:St}{H:Hp}{s s':Shared}
theorem Inv.env0(I:Inv X pins σ H s):Ab X.prog X.w X.K X.mg X.base X.A X.stack s H:=
 ⟨I.ok.frames,I.ok.mod,I.bs,LU I.ok.bsz I.sz,I.stack,I.stkFree,I.hok,I.bare⟩
theorem Inv.after{Q:VK}{u:Value}(I:Inv X pins σ H s)(h:CE X.stack X.prog X.w H s Q u s'):EP X pins σ Q u s':=by
 obtain⟨v,H',os,bare,un,hok,r,q⟩:=h;obtain⟨hh,g,d,t,os'⟩:=s';obtain rfl:os'=s.os:=os;exact⟨v,H',I.call (h':=hh) (g':=g) (d':=d) (t':=t) (ch:=[]) un hok bare (λ b z=>absurd z (by simp)),r,q⟩
end
def D5(sp:Sp)(dvs:List V)(E:XK)(t:TA):TE:=λ σ H Q=>t σ H λ vs H1=>sp (vs++dvs) H1 Q E
def aA(K:W.Frag)(fd:FuncData)(ps:List Str)(ds:List Value):Prop:=
 ∀ (s:Shared) (us:List Value),K.In s.heap->(us++ds).length=ps.length->BindsTo s fd ⟨us,[]⟩ (ps.zip (us++ds))
theorem aA.all{K:W.Frag}{fd:FuncData}{ps:List Str}(h:∀ us:List Value,us.length=ps.length->bindArgs fd ⟨us,[]⟩=pure (ps.zip us)):aA K fd ps []:=λ s us _ hl=>by
 rw [MG] at hl ⊢;exact .of_eq (h us hl)
def jl(CX:CXT)(X:Cx)(E:XK):Prop:=∀ (pins:List (Addr × Obj)) (σ:St) (H:Hp) (s:Shared) (e:Value) (s':Shared),Inv X pins σ H s->CX X.stack H s E e s'->X.xe e s'
section
variable {X:Cx}{CX:CXT}{k:Nat}{f C:Addr}{fd:FuncData}{ps:List Str}{sp:Sp}{dvs:List V}{ds:List Value}{E:XK}{x m:Str}{p pos apos:Pos}{e o:Expr}{es:List Expr}{ta:TE}{t:TA}
theorem Ai{pins:List (Addr × Obj)}{σ:St}{H:Hp}{s:Shared}{Q:VK}{us:List Value}{vs:List V}(F:bC X.prog X.w X.K X.mg X.base CX k f fd ps sp)(hr:gE k X.A)(hb:aA X.K fd ps ds)(hd:aT dvs ds)(hx:jl CX X E)
  (I:Inv X pins σ H s) (r:aT vs us) (h:sp (vs++dvs) H Q E):wpAny (model X.prog X.w) X.A (call (.ref f) us) (EP X pins σ Q) X.xe s:=by
 have r2:aT (vs++dvs) (us++ds):=r.append hd;have hl:(us++ds).length=ps.length:=by rw [←r2.length];exact F.len _ _ _ _ h
 refine wpAny_call (Nm (F.run X.A X.stack s H ⟨us,[]⟩ (us++ds) (vs++dvs) Q E hr I.env0 (hb s us I.kIn hl) r2 h) λ r s' hq=>?_)
 cases r with
 | error e=>exact hx pins σ H s e s' I hq
 | ok fl=>
  cases fl with
  | ret u=>exact I.after hq
  | next=>exact False.elim hq
  | brk=>exact False.elim hq
  | cont=>exact False.elim hq
theorem BO(F:bC X.prog X.w X.K X.mg X.base CX k f fd ps sp)(hr:gE k X.A)(hg:Gl X x)(hm:X.mg x=some (.ref f))(hk:W.keepIn X.K (.ref f)=true)(hb:aA X.K fd ps ds)(hd:aT dvs ds)(hx:jl CX X E)
  (ha:PA X (e::es) t) (hdb:(x == ("__debug__":Str))=false:=by decide) (he:starEach (e::es) X.env=(false,eval e X.env)::starEach es X.env:=by rfl) (hpl:(backTo pos (starEach es X.env)).any (·.1)=false:=by rfl) :
  PE X (.Call (.Name x p) (e::es) [] pos) (D5 sp dvs E t):=by
 intro pins s σ H Q I h;refine Mv (og I hg hm ?_ hdb);refine W.callWith_K (h₀:=X.base) I.ok.mod.kin hk (thn (ha pos pins s σ H _ I h) λ us s1 ⟨vs,H1,I1,r,q⟩=>⟨I1.kIn,?_⟩) he hpl;exact Ai F hr hb hd hx I1 r q
structure Mk(K:W.Frag)(C f:Addr):Prop where
 makes:W.makesIn K C=true
 init:W.findIn K (.ref C) "__init__"=some (some (.ref f))
 fn:W.isFn K (.ref f)=true
 kp:W.keepIn K (.ref C)=true
theorem xV{pins:List (Addr × Obj)}{σ:St}{H:Hp}{s:Shared}{Q:VK}{us:List Value}{vs:List V}(M:Mk X.K C f)(F:bC X.prog X.w X.K X.mg X.base CX k f fd ps sp)(hr:gE (k+1) X.A)(hb:aA X.K fd ps ds)(hd:aT dvs ds)
  (hx:jl CX X E) (I:Inv X pins σ H s) (r:aT vs us)
  (h:∀ x dx,H x=none->H dx=none->dx ≠ x->sp (.ref x::(vs++dvs)) (upd (upd H dx (.own x)) x (.ins C dx [])) (λ v H2=>v=.non/\Q (.ref x) H2) E) :
  wpAny (model X.prog X.w) X.A (call (.ref C) us) (EP X pins σ Q) X.xe s:=by
 have hq:=h (s.heap.objs.size+1) s.heap.objs.size (I.hok.fresh (Nat.le_succ _)) (I.hok.fresh (K3 _)) (Lf (MH _));have I2:=Inv.made (C:=C) I;have r2:aT (V.ref (s.heap.objs.size+1)::(vs++dvs)) (Value.ref (s.heap.objs.size+1)::(us++ds)):=.cons rfl (r.append hd)
 have hl:(Value.ref (s.heap.objs.size+1)::us++ds).length=ps.length:=by
  have e:=r2.length;rw [F.len _ _ _ _ hq] at e;exact e.symm
 refine wpAny_call (yr (f:=f) I.kIn M.makes M.init (NU.mp M.fn) (Nm (F.run _ X.stack _ _ ⟨Value.ref (s.heap.objs.size+1)::us,[]⟩ (Value.ref (s.heap.objs.size+1)::(us++ds)) _ _ E (hr.make C us [])
  (I2.env0.make C us []) (hb _ (Value.ref (s.heap.objs.size+1)::us) I2.kIn hl) r2 hq) λ r s' hq'=>?_))
 cases r with
 | error e=>exact hx pins σ _ _ e s' I2 hq'
 | ok fl=>
  cases fl with
  | ret u=>
   obtain⟨v,H',I3,rv,ev,q3⟩:=I2.after hq';subst ev;exact⟨rv,⟨V.ref (s.heap.objs.size+1),H',I3,rfl,q3⟩⟩
  | next=>exact False.elim hq'
  | brk=>exact False.elim hq'
  | cont=>exact False.elim hq'
end
def PK(X:Cx)(kws:List Keyword)(t:TA):Prop:=
 ∀ (pos:Pos) (pins:List (Addr × Obj)) (s:Shared) (σ:St) (H:Hp) (Q:List V->Hp->Prop),Inv X pins σ H s->t σ H Q->wpAny (model X.prog X.w) X.A (evalAll ((backToKw pos (keywordEach kws X.env)).map (·.2))) (AP X pins σ Q) X.xe s
section
variable {X:Cx}{CX:CXT}{k:Nat}{f C:Addr}{fd:FuncData}{ps ks:List Str}{sp:Sp}{E:XK}{x m:Str}{p pos apos kpos:Pos}{e o:Expr}{es:List Expr}{kws:List Keyword}{te ta:TE}{t tk:TA}{nm:Option Str}
theorem EV:PK X [] DK:=λ _ _ _ _ H Q I h=>wpAny_evalAll_nil ⟨[],H,I,.nil,h⟩
theorem BF(ha:PE X e te)(hr:PK X kws t):PK X (⟨nm,e,kpos⟩ :: kws) (sU te t):=by
 intro pos pins s σ H Q I h
 show wpAny _ _ (evalAll ((do let v ←eval e X.env;standAt pos;pure v)::(backToKw pos (keywordEach kws X.env)).map (·.2))) _ _ s
 refine wpAny_evalAll_cons (KW (thn (ha pins s σ H _ I h) λ u s1 ⟨x,H1,I1,r1,q1⟩=>KW (ND (K8 ?_))));exact thn (hr pos pins s1 σ H1 _ I1 q1) λ us s2 ⟨xs,H2,I2,r2,q2⟩=>⟨x::xs,H2,I2,.cons r1 r2,q2⟩
variable {g:List Value->List Value->List Value}{gV:List V->List V->List V}
end
structure ao(N P:List Str)(sc:Scope):Prop where
 kind:sc.kind=.function
 co:sc.isCoroutine=false
 gen:sc.isGenerator=false
 nd:N.Nodup
 pre:N.take P.length=P
 par:∀ x∈P,sc.names.lookup x=some .local\/sc.names.lookup x=some .cell
 nofree:∀ y∈sc.names,y.2 ≠ .free
theorem mD{kindOf:Str->Option NameKind}{x:Str}:∀ {binds:List (Str × Value)}{m:Str->Option Value},(∀ v,(x,v) ∉ binds)->bindL kindOf binds m x=m x
 | [],_,_=>rfl
 | (n,v)::r,m,h=>by
  unfold bindL;rw [mD λ w hw=>h w (mem_cons_of_mem _ hw)];split
  ·have:x ≠ n:=by rintro rfl;exact h v K1
   simp [this]
  ·rfl
theorem mF{kindOf:Str->Option NameKind}{x:Str}:∀ {binds:List (Str × Value)}{m:Str->Option Value},(∀ v,(x,v) ∉ binds)->bindC kindOf binds m x=m x
 | [],_,_=>rfl
 | (n,v)::r,m,h=>by
  unfold bindC;rw [mF λ w hw=>h w (mem_cons_of_mem _ hw)];split
  ·rfl
  ·have:x ≠ n:=by rintro rfl;exact h v K1
   simp [this]
theorem mE{kindOf:Str->Option NameKind}{x:Str}{v:Value}:∀ {P:List Str}{vs:List Value}{i:Nat}{m:Str->Option Value},P.Nodup->P[i]? = some x->vs[i]? = some v->kindOf x=some .local →
  bindL kindOf (P.zip vs) m x=some v
 | [],_,_,_,_,h,_,_=>by simp at h
 | _::_,[],_,_,_,_,h,_=>by simp at h
 | p::P,w::vs,0,m,nd,h1,h2,hk=>by
  simp at h1 h2;subst h1;subst h2
  show bindL kindOf ((p,w)::P.zip vs) m p=_
  unfold bindL;rw [mD λ v hv=>(List.nodup_cons.mp nd).1 (of_mem_zip hv).1,if_pos hk];simp
 | p::P,w::vs,i+1,m,nd,h1,h2,hk=>by
  show bindL kindOf ((p,w)::P.zip vs) m x=_
  unfold bindL;exact mE (i:=i) (List.nodup_cons.mp nd).2 (by simpa using h1) (by simpa using h2) hk
theorem mG{kindOf:Str->Option NameKind}{x:Str}{v:Value}:∀ {P:List Str}{vs:List Value}{i:Nat}{m:Str->Option Value},P.Nodup->P[i]? = some x->vs[i]? = some v->kindOf x ≠ some .local →
  bindC kindOf (P.zip vs) m x=some v
 | [],_,_,_,_,h,_,_=>by simp at h
 | _::_,[],_,_,_,_,h,_=>by simp at h
 | p::P,w::vs,0,m,nd,h1,h2,hk=>by
  simp at h1 h2;subst h1;subst h2
  show bindC kindOf ((p,w)::P.zip vs) m p=_
  unfold bindC;rw [mF λ v hv=>(List.nodup_cons.mp nd).1 (of_mem_zip hv).1,if_neg hk];simp
 | p::P,w::vs,i+1,m,nd,h1,h2,hk=>by
  show bindC kindOf ((p,w)::P.zip vs) m x=_
  unfold bindC;exact mG (i:=i) (List.nodup_cons.mp nd).2 (by simpa using h1) (by simpa using h2) hk
def start(N:List Str)(vs:List V):St:=vs.map some++List.replicate (N.length - vs.length) none
def zY(CX:CXT)(P:Program)(w:World)(K:W.Frag)(mg:Str->Option Value)(base:Heap)(N:List Str)(qual:Str)(scope:Scope)(f:Addr)(cd:Value)(A:Around)(outer:List Env)(s:Shared)(H:Hp)(E:XK):Cx where
 prog:=P
 w:=w
 K:=K
 mg:=mg
 base:=base
 A:=A.deeper (envOfC qual scope s.heap.objs.size f cd)
 N:=N
 s₀:=s
 H₀:=H
 env:=envOfC qual scope s.heap.objs.size f cd
 outer:=outer
 stack:=envOfC qual scope s.heap.objs.size f cd::outer
 ex:=[]
 calm:=true
 fn:=λ _=>true
 pn:=[]
 xe:=λ e s'=>wpAny (model P w) (A.deeper (envOfC qual scope s.heap.objs.size f cd)) (leaving (envOfC qual scope s.heap.objs.size f cd) e) (λ _ s''=>CX outer H s E e s'') (λ e' s''=>CX outer H s E e' s'') s'
theorem qh{sc:Scope}{n:Nat}{x:Str}(h:sc.names.lookup x=some .cell):∃ c,(cellsFrom n sc.names []).lookup x=some c:=by
 have q:=W.cellsFrom_some sc.names n [] (.inl h);exact Option.isSome_iff_exists.mp q
theorem wR{CX:CXT}{P:Program}{w:World}{K:W.Frag}{mg:Str->Option Value}{base:Heap}{N ps:List Str}{qual:Str}{scope:Scope}{f:Addr}{cd:Value}{A:Around}{outer:List Env}{s s1:Shared}{H:Hp}{E:XK}{us:List Value}{vs:List V}
  (S:ao N ps scope) (hd:A.handled=none) (e0:Ab P w K mg base A outer s H) (hl:vs.length=ps.length) (r:aT vs us)
  (x:InCallC s s.heap.objs.size (bindL (envOfC qual scope s.heap.objs.size f cd).kindOf (ps.zip us) λ _=>none) (cellsFrom (s.heap.objs.size+1) scope.names []) (bindC (envOfC qual scope s.heap.objs.size f cd).kindOf (ps.zip us) λ _=>none) s1) :
  Inv (zY CX P w K mg base N qual scope f cd A outer s H E) [] (start N vs) H s1:=by
 have hpl:ps.length<=N.length:=by have:=L6 List.length S.pre;rw [LW] at this;omega
 obtain⟨h1,tk,rfl,hk⟩:=x.done;have noA:∀ b:Addr,b ∉ (zY CX P w K mg base N qual scope f cd A outer s H E).ex:=λ b z=>absurd (show b∈([]:List Addr) from z) (by simp)
 refine⟨⟨e0.mod,S.kind,rfl,rfl,K3 _,λ y z c h1 h2=>?_,λ y hy=>?_,λ y c _ h=>?_,λ _=>hd,Around.frames_deeper e0.frames,.inr ⟨rfl,rfl⟩,λ b z=>absurd z (noA b),e0.bs,e0.bsz,λ b _ _=>noA b,λ b z=>absurd z (noA b),e0.funs,e0.frf⟩,
  rfl,e0.bare,Un.kept hk,⟨_,x.toInCall.ns,λ i y v h1 h2 h3=>?_⟩,λ y c h=>⟨_,x.cell y c h⟩,e0.hok.fresh (K3 _),λ y c h=>?_,λ p hp=>absurd (show p∈([]:List (Addr × Obj)) from hp) (by simp),e0.hok.kept hk,?_⟩
 ·exact name_of_addr x.apart (MJ h1) (MJ h2)
 ·have hy:scope.names.lookup y=some .cell\/scope.names.lookup y=some .free:=hy
  rcases hy with hy|hy
  ·exact qh hy
  ·exact absurd rfl (S.nofree _ (MJ hy))
 ·exact M7 (x.above y c (MJ h))
 ·have hi:i < vs.length:=by
   unfold start at h2
   by_cases hi:i < vs.length
   ·exact hi
   ·rw [Lk (by simpa using hi)] at h2;rw [Nj] at h2
    split at h2<;>cases h2
  have ha:vs[i]? = some v:=by
   unfold start at h2;rw [getElem?_append_left (by simpa using hi),getElem?_map] at h2
   cases e:vs[i]? with
   | none=>rw [e] at h2;cases h2
   | some a=>rw [e] at h2;cases h2;rfl
  obtain⟨u,hu,rv⟩:=r.get ha
  have hp:ps[i]? = some y:=by
   rw [←S.pre,List.getElem?_take_of_lt (by omega)];exact h1
  have ndP:ps.Nodup:=by rw [←S.pre];exact S.nd.sublist (List.take_sublist _ _)
  refine⟨u,rv,?_⟩
  rcases S.par y (My hp) with k|k
  ·exact .inl ⟨k,mE ndP hp hu k⟩
  ·obtain⟨c,e⟩:=qh (n:=s.heap.objs.size+1) k;refine .inr ⟨.inl k,c,e,?_⟩;have q:=x.cell y c e;rw [mG ndP hp hu (by show scope.names.lookup y ≠ _;rw [k];decide)] at q;exact q
 ·exact e0.hok.fresh (M7 (x.above y c (MJ h)))
 ·unfold start
  show _=N.length
  rw [K4,K2,List.length_replicate];omega
theorem Ex{CX:CXT}{P:Program}{w:World}{K:W.Frag}{mg:Str->Option Value}{base:Heap}{k:Nat}{f:Addr}{name qual:Str}{params:Arguments}{body:List Stmt}{scope:Scope}{dV kV doc pm cdv ct oc:Value}{an od:Option Addr}
  {osl:Array (Option Value)} {N ps:List Str} {sp:Sp} (lk:K.lookup f=some ⟨oc,od,.func (W.fnOf name qual params body scope dV kV doc pm an cdv ct),osl⟩) (hcd:W.codeIn K cdv qual=true) (S:ao N ps scope)
  (len:∀ vs H Q E,sp vs H Q E->vs.length=ps.length)
  (hbody:∀ (A:Around) (outer:List Env) (s:Shared) (H:Hp) (vs:List V) (Q:VK) (E:XK),gE k (A.deeper (envOfC qual scope s.heap.objs.size f cdv))->sp vs H Q E →
   ∃ t,PSs (zY CX P w K mg base N qual scope f cdv A outer s H E) body t/\t { nx:=λ _ H'=>Q .non H',rt:=Q } (start N vs) H) :
  bC P w K mg base CX (k+1) f (W.fnOf name qual params body scope dV kV doc pm an cdv ct) ps sp:=by
 refine⟨len,λ A outer s H args us vs Q E hr e0 hb r hsp=>?_⟩;have hl:=len _ _ _ _ hsp;have KX:K.In s.heap:=e0.mod.kin.keeps λ b o e=>(e0.bs b o e).1;have lim:s.heap.NoLimit:=e0.mod.nolimit.keeps λ b o e=>(e0.bs b o e).1
 have hkind:∀ y∈ps.zip us,scope.names.lookup y.1=some .local\/(scope.names.lookup y.1=some .cell/\((cellsFrom (s.heap.objs.size+1) scope.names []).lookup y.1).isSome=true):=λ ⟨n,v⟩ hy=>by
  rcases S.par n (M9 hy).1 with q|q
  ·exact .inl q
  ·exact .inr ⟨q,W.cellsFrom_some _ _ _ (.inl q)⟩
 refine codeAny_call_function hr.depth (KX _ _ lk) rfl S.co S.gen rfl (W.codeRec_of KX hcd) (hb _ _ _ _ ?_);refine wpAny_newFunctionEnv_cells S.kind hkind λ env he s1 x=>?_;subst he;refine⟨lim.keeps x.toInCall.keep,codeAny_func ?_⟩;obtain⟨t,ht,hq⟩:=hbody A outer s H vs Q E (hr.deeper _) hsp;have I:Inv (zY CX P w K mg base N qual scope f cdv A outer s H E) [] (start N vs) H s1:=wR S hr.hd e0 hl r x;refine Nw (ht [] s1 (start N vs) H _ I hq) (λ fl s' hs=>?_) λ e s' hs=>hs
 have fin:∀ {σ':St} {H':Hp} {v:V} {u:Value},Inv (zY CX P w K mg base N qual scope f cdv A outer s H E) [] σ' H' s'->bp v u->Q v H'->CE outer P w H s Q u s':=
  λ {σ' H' v u} J rv q=>⟨v,H',J.os,J.bare,J.base,J.hok,rv,q⟩
 cases fl with
 | ret u=>
  obtain⟨v,σ',H',J,rv,q⟩:=hs;exact fin J rv q
 | next=>
  obtain⟨σ',H',J,q⟩:=hs;exact fin (v:=V.non) (u:=Value.none) J rfl q
 | brk=>
  obtain⟨_,_,_,q⟩:=hs;exact False.elim q
 | cont=>
  obtain⟨_,_,_,q⟩:=hs;exact False.elim q
section
variable {X:Cx}{x:Str}{p pos:Pos}{e:Expr}{es:List Expr}{t:TA}{id T:String}{r:List V->Hp->VK->Prop}
def tCB(r:List V->Hp->VK->Prop)(t:TA):TE:=λ σ H Q=>t σ H λ vs H1=>r vs H1 Q
theorem gK(hc:bK X (.builtin id) r)(hg:Gl X x)(hm:X.mg x=none)(hv:bootBuiltins x=some (.builtin id))(ha:PA X (e::es) t)(hn:x ≠ "__name__":=by decide)(hdb:(x == ("__debug__":Str))=false:=by decide)
  (he:starEach (e::es) X.env=(false,eval e X.env)::starEach es X.env:=by rfl) (hpl:(backTo pos (starEach es X.env)).any (·.1)=false:=by rfl):PE X (.Call (.Name x p) (e::es) [] pos) (tCB r t):=by
 intro pins s σ H Q I h;refine Mv (ft I hg hm hv ?_ hn hdb);exact PyProof.Rows.callWith_builtin1 (thn (ha pos pins s σ H _ I h) λ us s1 ⟨vs,H1,I1,r1,q1⟩=>hc pins s1 σ H1 vs us Q I1 r1 q1) he hpl
theorem fA(hc:bK X (.type T) r)(hg:Gl X x)(hm:X.mg x=none)(hv:bootBuiltins x=some (.type T))(ha:PA X (e::es) t)(hn:x ≠ "__name__":=by decide)(hdb:(x == ("__debug__":Str))=false:=by decide)
  (he:starEach (e::es) X.env=(false,eval e X.env)::starEach es X.env:=by rfl) (hpl:(backTo pos (starEach es X.env)).any (·.1)=false:=by rfl):PE X (.Call (.Name x p) (e::es) [] pos) (tCB r t):=by
 intro pins s σ H Q I h;refine Mv (ft I hg hm hv ?_ hn hdb);exact LN (thn (ha pos pins s σ H _ I h) λ us s1 ⟨vs,H1,I1,r1,q1⟩=>hc pins s1 σ H1 vs us Q I1 r1 q1) he hpl
end
end L2
namespace HT
open PySem PyProof.Rows
section
open PySem.SeqAt
open PySem.AutoSeq1 (wpAny_loadPart')
open PySem.MeetsSeq PySem.MeetsSeq2 PySem.MeetsSeq3
end
section
variable {prog:Program}{w:World}{A:Around}{E:Value->Shared->Prop}{s:Shared}
theorem cat_tup{t b:Addr}{vs ws:List Value}{Q:Value->Shared->Prop}(ht:IsTup s.heap t vs.toArray)(hb:IsTup s.heap b ws.toArray)(hv:vs ≠ [])
  (h1:ws=[]->Q (.ref t) s) (h2:ws ≠ []->Q (.ref s.heap.objs.size) { s with heap:=s.heap.push { cls:=.type "tuple",data:=.seq (vs++ws).toArray } })
  (hsz:vs.length+ws.length<=sizeLine):wpAny (model prog w) A (binaryOp .Add (.ref t) (.ref b)) Q E s:=by
 obtain⟨⟨cls,dd,data,sl⟩,ho,hc,n,hd⟩:=id ht;obtain⟨⟨cls2,dd2,data2,sl2⟩,ho2,hc2,n2,hd2⟩:=id hb;simp only at hc hd hc2 hd2;subst hc hd hc2 hd2;have e:vs.toArray++ws.toArray=(vs++ws).toArray:=by simp
 by_cases hw:ws=[]
 ·exact concat_meets ⟨_,ho,rfl⟩ ⟨_,ho2,rfl⟩ noFill_tuple_add seq_tuple_add Nt Nh (Nf _ _)
   (tuple_addW1 t b vs.toArray ws.toArray n n2 dd dd2 sl sl2 (by simpa using hv) (by simp [hw])) ⟨ho,ho2,h1 hw⟩
 ·refine concat_meets ⟨_,ho,rfl⟩ ⟨_,ho2,rfl⟩ noFill_tuple_add seq_tuple_add Nt Nh (Nf _ _)
   (tuple_addW2 t b vs.toArray ws.toArray n n2 dd dd2 sl sl2 (by simpa using hv) (by simpa using hw) (by rw [Ld,Ld];exact hsz)) ⟨ho,ho2,?_⟩
  rw [e];exact h2 hw
def sIx(n d:Nat):Option Int->Nat
 | none=>d
 | some v=>if v < 0 then (v+(n:Int)).toNat else min v.toNat n
theorem sIx_none(n d:Nat):sIx n d none=d:=rfl
theorem sIx_nat(n d k:Nat):sIx n d (some (k:Int))=min k n:=by
 show (if (k:Int) < 0 then ((k:Int)+(n:Int)).toNat else min (k:Int).toNat n)=min k n
 rw [K5 (by omega),LK]
theorem EK(n d:Nat)(hd:d<=n)(o:Option Int):sIx n d o<=n:=by
 cases o with
 | none=>exact hd
 | some v=>
  show (if v < 0 then (v+(n:Int)).toNat else min v.toNat n)<=n
  by_cases hv:v < 0
  ·rw [K7 hv];omega
  ·rw [K5 hv];exact Nat.min_le_right _ _
theorem vf(v:Int)(n d:Nat):(if v < 0 then max (v+(n:Int)) 0 else min v (n:Int))=((sIx n d (some v):Nat):Int):=by
 show (if v < 0 then max (v+(n:Int)) 0 else min v (n:Int))=(((if v < 0 then (v+(n:Int)).toNat else min v.toNat n):Nat):Int)
 by_cases hv:v < 0
 ·simp only [K7 hv];omega
 ·simp only [K5 hv];omega
theorem sF(lo hi:Option Int)(n:Nat):Builtin.Slice.sliceAdjust lo hi 1 (n:Int)=(((sIx n 0 lo:Nat):Int),((sIx n n hi:Nat):Int)):=by
 have h1:¬ ((1:Int) < 0):=by omega
 unfold Builtin.Slice.sliceAdjust;simp only [h1,if_false];refine Prod.ext ?_ ?_
 ·cases lo with
  | none=>rfl
  | some v=>exact vf v n 0
 ·cases hi with
  | none=>rfl
  | some v=>exact vf v n n
theorem qR(i j:Nat):Builtin.Slice.slicePlaces (i:Int) (j:Int) 1=j - i:=by
 unfold Builtin.Slice.slicePlaces;have h1:(1:Int) > 0:=by omega
 simp only [h1,NT,Int.ediv_one]
 split<;>omega
theorem jq{v:Value}{o:Option Int}{Q:Option Int->Shared->Prop}(p:IsPart v o)(h:Q o s):wpAny (model prog w) A (Builtin.Slice.slicePartIndex v) Q E s:=by
 cases p with
 | none=>exact slicePart_none h
 | int i t=>exact slicePart_int h
theorem gA{sl:Addr}{vl vu:Value}{lo hi:Option Int}{n:Nat}{Q:Int × Int × Nat->Shared->Prop}(hs:s.heap.IsSliceOf sl vl vu .none)(pl:IsPart vl lo)(pu:IsPart vu hi)
  (h:Q (((sIx n 0 lo:Nat):Int),1,sIx n n hi - sIx n 0 lo) s):wpAny (model prog w) A (Builtin.Slice.sliceApplied (.ref sl) (pure (n:Int))) Q E s:=by
 obtain⟨os,hos,hcs,hds⟩:=id hs;unfold Builtin.Slice.sliceApplied Builtin.Slice.sliceFields;refine wpAny_bind (wpAny_bind (wpAny_field hos hds (x:=vl) rfl (wpAny_bind (wpAny_field hos hds (x:=vu) rfl (wpAny_bind (wpAny_field hos hds (x:=.none) rfl (wpAny_pure ?_)))))));refine wpAny_bind (slicePart_none ?_)
 show wpAny _ _ (if ((1:Int) == 0)=true then _ else _) _ _ s
 rw [K5 (by decide)];refine KW (jq pl (KW (jq pu (KW (K8 ?_)))))
 show wpAny _ _ (match Builtin.Slice.sliceAdjust lo hi 1 (n:Int) with|(lo,hi)=>pure (lo,(1:Int),Builtin.Slice.slicePlaces lo hi 1)) _ _ s
 rw [sF lo hi n]
 show wpAny _ _ (pure (((sIx n 0 lo:Nat):Int),(1:Int),Builtin.Slice.slicePlaces ((sIx n 0 lo:Nat):Int) ((sIx n n hi:Nat):Int) 1)) _ _ s
 rw [qR];exact K8 h
theorem x8(xs:Array Value)(i k:Nat):((List.range k).filterMap λ (m:Nat)=>xs[((i:Int)+(m:Int) * 1).toNat]?).toArray=((xs.toList.drop i).take k).toArray:=by
 have e:(λ (m:Nat)=>xs[((i:Int)+(m:Int) * 1).toNat]?)=λ m=>xs[i+m]?:=by
  funext m;have:((i:Int)+(m:Int) * 1).toNat=i+m:=by omega
  rw [this]
 rw [e];have:=pick_run xs i k;rw [List.filterMap_map] at this;have e2:((λ x=>xs[x]?) ∘ λ x=>i+x)=λ m=>xs[i+m]?:=rfl;rw [e2] at this;rw [this]
theorem getItem_tuple_cut{t sl:Addr}{items:Array Value}{vl vu:Value}{lo hi:Option Int}{Q:Value->Shared->Prop}(ht:IsTup s.heap t items)(hs:s.heap.IsSliceOf sl vl vu .none)(pl:IsPart vl lo)(pu:IsPart vu hi)
  (hw:¬ (sIx items.size 0 lo=0/\sIx items.size items.size hi=items.size))
  (h:Q (.ref s.heap.objs.size) { s with heap:=s.heap.push { cls:=.type "tuple",data:=.seq ((items.toList.drop (sIx items.size 0 lo)).take (sIx items.size items.size hi - sIx items.size 0 lo)).toArray } })
  (hsz:items.size<=sizeLine):wpAny (model prog w) A (getItem (.ref t) (.ref sl)) Q E s:=by
 have htake:sizeOk (.seq ((items.toList.drop (sIx items.size 0 lo)).take (sIx items.size items.size hi - sIx items.size 0 lo)).toArray):=by
  show ((items.toList.drop (sIx items.size 0 lo)).take (sIx items.size items.size hi - sIx items.size 0 lo)).toArray.size<=sizeLine
  rw [Ld,LW,M1,Mp];omega
 have hj:sIx items.size items.size hi<=items.size:=EK _ _ (Nat.le_refl _) hi;obtain⟨os,hos,hcs,hds⟩:=id hs;have hTs:s.TypeIs (.ref sl) "slice":=⟨os,hos,hcs⟩;unfold getItem
 try with_reducible refine MX ?_
 first|refine KW (K8 ?_)|skip
 refine KW (wpAny_sequenceKey ht.typeIs (by decide) ?_)
 refine KW (Mq (name:=Str.ofString "__getitem__") ht.typeIs MU
  (MQ MU ht.typeIs entry_tuple_getitem ?_ (args_tuple_getitem _ _)))
 show wpAny _ _ (Builtin.Tuple.tupleItemsOf (.ref t) >>= _) _ _ s
 refine KW (tupleItemsOf_ ht ?_);refine KW (wpAny_typeOf hTs ?_);rw [K7 (by decide)];refine KW (gA hs pl pu ?_)
 have hno:¬ ((((sIx items.size 0 lo:Nat):Int) == 0 && (1:Int) == 1 && (sIx items.size items.size hi - sIx items.size 0 lo) == items.size)=true):=by
  intro q;rw [Nr,Nr] at q;have q1:((sIx items.size 0 lo:Nat):Int)=0:=eq_of_beq q.1.1;have q2:sIx items.size items.size hi - sIx items.size 0 lo=items.size:=eq_of_beq q.2;exact hw ⟨by omega,by omega⟩
 show wpAny _ _ (if (((sIx items.size 0 lo:Nat):Int) == 0 && (1:Int) == 1 && (sIx items.size items.size hi - sIx items.size 0 lo) == items.size)=true then _ else _) _ _ s
 rw [K5 hno,x8]
 first
  | exact KW (m:=Builtin.Tuple.tupleExact _) (Md (K8 ⟨_,rfl,K8 h⟩) htake)
  | exact KW (m:=Builtin.Tuple.tupleExact _) (Md (KW (K8 (K8 ⟨_,rfl,K8 h⟩))) htake)
  | exact KW (KW (m:=Builtin.Tuple.tupleExact _) (Md (K8 (K8 ⟨_,rfl,K8 h⟩)) htake))
  | exact KW (KW (m:=Builtin.Tuple.tupleExact _) (Md (K8 ⟨_,rfl,K8 h⟩) htake))
end
end HT
namespace L2
open PySem PySem.Spec PyProof.Rows
abbrev TO:=St->Hp->(Option Int->Hp->Prop)->Prop
def PO(X:Cx)(e:Option Expr)(t:TO):Prop:=
 ∀ (pins:List (Addr × Obj)) (s:Shared) (σ:St) (H:Hp) (Q:Option Int->Hp->Prop),Inv X pins σ H s->t σ H Q →
  wpAny (model X.prog X.w) X.A (evalPart e X.env) (λ u s'=>∃ o H',Inv X pins σ H' s'/\IsPart u o/\Q o H') X.xe s
def uA:TO:=λ _ H Q=>Q none H
def DX(t:TE):TO:=λ σ H Q=>t σ H λ x H1=>∃ i,x=.int i/\Q (some i) H1
section
variable {X:Cx}{e:Expr}{te:TE}{lo hi:Option Expr}{tl th:TO}{pos p2:Pos}
theorem eX:PO X none uA:=by
 intro pins s σ H Q I h;rw [evalPart_none];exact K8 ⟨none,H,I,.none,h⟩
theorem eW(h:PE X e te):PO X (some e) (DX te):=by
 intro pins s σ H Q I hw;rw [evalPart_some];refine thn (h pins s σ H _ I hw) λ u s1 ⟨x,H1,I1,r1,q1⟩=>?_;obtain⟨i,rfl,q⟩:=q1;obtain⟨t,rfl⟩:=r1;exact⟨some i,H1,I1,.int i t,q⟩
def SlR(X:Cx)(r:V->Option Int->Option Int->Hp->VK->Prop):Prop:=
 ∀ (pins:List (Addr × Obj)) (s:Shared) (σ:St) (H:Hp) (x:V) (v vl vu:Value) (lo hi:Option Int) (sl:Addr) (Q:VK),Inv X pins σ H s->bp x v->s.heap.IsSliceOf sl vl vu .none->IsPart vl lo->IsPart vu hi->r x lo hi H Q →
  ∃ T id,typeLookup (.type T) "__getitem__"=pure (some (.builtin id))/\s.TypeIs v T/\wpAny (model X.prog X.w) X.A (getItem v (.ref sl)) (EP X pins σ Q) X.xe s
def tSl(r:V->Option Int->Option Int->Hp->VK->Prop)(te:TE)(tl th:TO):TE:=λ σ H Q=>te σ H λ x H1=>tl σ H1 λ l H2=>th σ H2 λ u H3=>r x l u H3 Q
theorem ye{r:V->Option Int->Option Int->Hp->VK->Prop}(hr:SlR X r)(he:PE X e te)(hl:PO X lo tl)(hu:PO X hi th):PE X (.Subscript e (.Slice lo hi none p2) pos) (tSl r te tl th):=by
 intro pins s σ H Q I h;refine Subscript_ (thn (he pins s σ H _ I h) λ v s1 ⟨x,H1,I1,r1,q1⟩=>?_);refine wpAny_Slice (thn (hl pins s1 σ H1 _ I1 q1) λ vl s2 ⟨l,H2,I2,pl,q2⟩=>thn (hu pins s2 σ H2 _ I2 q2) λ vu s3 ⟨u,H3,I3,pu,q3⟩=>?_);rw [evalPart_none];refine K8 ?_;have I4:Inv X pins σ H3 { s3 with heap:=s3.heap.push { cls:=.type "slice",data:=.fields #[vl,vu,.none] } }:=I3.kept (t':=s3.toks) λ b ob q=>KY _ q;obtain⟨T,id,hT,ht,hg⟩:=hr pins { s3 with heap:=s3.heap.push { cls:=.type "slice",data:=.fields #[vl,vu,.none] } } σ H3 x v vl vu l u s3.heap.objs.size Q I4 r1 (Heap.IsSliceOf.new ..) pl pu q3
 show wpAny (model X.prog X.w) X.A (subscriptTail e (.Slice lo hi none p2) v (.ref s3.heap.objs.size)) (EP X pins σ Q) X.xe { s3 with heap:=s3.heap.push { cls:=.type "slice",data:=.fields #[vl,vu,.none] } }
 exact tail_any (ops:=[.ref s3.heap.objs.size,v]) ht hT hg (by with_unfolding_all rfl)
def jg(xs:List V)(lo hi:Option Int):List V:=(xs.drop (HT.sIx xs.length 0 lo)).take (HT.sIx xs.length xs.length hi - HT.sIx xs.length 0 lo)
theorem iM(xs:List V)(lo hi:Option Int):(jg xs lo hi).length<=xs.length:=by
 unfold jg;rw [length_take,length_drop];omega
def Kn(K:W.Frag):V->Option Int->Option Int->Hp->VK->Prop:=λ x lo hi H Q=>∃ a xs,x=.ref a/\SqT K H a xs /\
 ¬ (HT.sIx xs.length 0 lo=0/\HT.sIx xs.length xs.length hi=xs.length)/\∀ p,H p=none->Q (.ref p) (upd H p (.tup (jg xs lo hi)))
theorem EI:SlR X (Kn X.K):=by
 intro pins s σ H x v vl vu lo hi sl Q I rx hs pl pu h;obtain⟨a,xs,rfl,hx,hw,q⟩:=h;cases rx;obtain⟨its,r,ht,hz⟩:=I.tuple hx;have hlen:its.toArray.size=xs.length:=by rw [Ld];exact r.length.symm
 refine⟨"tuple",_,MU.lookup,ht.typeIs,?_⟩;refine HT.getItem_tuple_cut ht hs pl pu (by rw [hlen];exact hw) ?_ (by rw [hlen];exact hz);rw [hlen];refine⟨.ref s.heap.objs.size,_,I.laid (t':=s.toks) (o:=.tup (jg xs lo hi)) (λ b ob q=>KY _ q) (K3 _) ?_,rfl,q _ (I.hok.fresh (K3 _))⟩;exact⟨LU (iM xs lo hi) hz,_,(r.drop (HT.sIx xs.length 0 lo)).take (HT.sIx xs.length xs.length hi - HT.sIx xs.length 0 lo),IsTup.new _ _⟩
def Ih(K:W.Frag):R2:=λ x y H Q=>∃ a b xs ys,x=.ref a/\y=.ref b/\SqT K H a xs/\SqT K H b ys/\xs ≠ []/\xs.length+ys.length<=sizeLine /\
 (ys=[]->Q (.ref a) H)/\(ys ≠ []->∀ p,H p=none->Q (.ref p) (upd H p (.tup (xs++ys))))
theorem aT.nil_iff{xs:List V}{us:List Value}(r:aT xs us):us=[] ↔ xs=[]:=by
 cases r with
 | nil=>simp
 | cons _ _=>simp
theorem BX:OpR X (binaryOp .Add) (Ih X.K):=by
 intro pins s σ H x y v u Q I rx ry h;obtain⟨a,b,xs,ys,rfl,rfl,ha,hb,hx,hz,q1,q2⟩:=h;cases rx;cases ry;obtain⟨its,r1,p1,_⟩:=I.tuple ha;obtain⟨its2,r2,p2,_⟩:=I.tuple hb;refine HT.cat_tup p1 p2 (λ z=>hx (r1.nil_iff.mp z)) (λ z=>⟨.ref a,H,I,rfl,q1 (r2.nil_iff.mp z)⟩) (λ z=>?_) (by rw [←r1.length,←r2.length];exact hz);refine⟨.ref s.heap.objs.size,_,I.laid (t':=s.toks) (o:=.tup (xs++ys)) (λ b ob q=>KY _ q) (K3 _) ?_,rfl,q2 (λ w=>z (r2.nil_iff.mpr w)) _ (I.hok.fresh (K3 _))⟩;exact⟨by rw [K4];exact hz,_,r1.append r2,IsTup.new _ _⟩
end
def ixN(n:Nat)(i:Int):Option Nat:=if 0<=i then (if i < n then some i.toNat else none) else if -(n:Int)<=i then some (i+n).toNat else none
def atI{α:Type}(xs:List α)(i:Int):Option α:=(ixN xs.length i).bind λ j=>xs[j]?
theorem uU{n:Nat}{i:Int}{j:Nat}(h:ixN n i=some j):seqIndex? i n=some j/\j < n/\-(n:Int)<=i/\i < n:=by
 unfold ixN at h
 by_cases h0:0<=i
 ·rw [K7 h0] at h
  by_cases h1:i < n
  ·rw [K7 h1] at h;have e:i.toNat=j:=LB h;exact⟨by rw [seqIndex_of h0 h1,e],by omega,by omega,h1⟩
  ·rw [K5 h1] at h;cases h
 ·rw [K5 h0] at h
  by_cases h1:-(n:Int)<=i
  ·rw [K7 h1] at h;have e:(i+n).toNat=j:=LB h;exact⟨by rw [seqIndex_neg (by omega) h1,e],by omega,h1,by omega⟩
  ·rw [K5 h1] at h;cases h
theorem vm{α:Type}{xs:List α}{i:Int}{v:α}(h:atI xs i=some v):∃ j,seqIndex? i xs.length=some j/\xs[j]? = some v/\j < xs.length/\-(xs.length:Int)<=i/\i < xs.length:=by
 unfold atI at h
 cases e:ixN xs.length i with
 | none=>rw [e] at h;cases h
 | some j=>
  rw [e] at h;obtain⟨h1,h2,h3,h4⟩:=uU e;exact⟨j,h1,h,h2,h3,h4⟩
theorem cZ{α:Type}{xs:List α}{j:Nat}{v:α}(h:xs[j]? = some v):atI xs (j:Int)=some v:=by
 have hj:j < xs.length:=(K0.mp h).1
 have e:ixN xs.length (j:Int)=some j:=by
  unfold ixN;rw [if_pos (by omega),if_pos (by omega)];simp
 unfold atI;rw [e];exact h
def DD(b:Expr):Prop:=∀ o i,subscripted b false o i=operate [o,i] (getItem o i)
def IxR(X:Cx)(r:R2):Prop:=
 ∀ (value slice:Expr) (pins:List (Addr × Obj)) (s:Shared) (σ:St) (H:Hp) (x y:V) (v u:Value) (Q:VK),Inv X pins σ H s->bp x v->bp y u->r x y H Q →
  subscripted slice false v u=operate [v,u] (getItem v u)->wpAny (model X.prog X.w) X.A (subscriptTail value slice v u) (EP X pins σ Q) X.xe s
def MtR(X:Cx)(id:String)(r:V->List V->Hp->VK->Prop):Prop:=
 ∀ (pins:List (Addr × Obj)) (s:Shared) (σ:St) (H:Hp) (x:V) (xs:List V) (v:Value) (us:List Value) (Q:VK),Inv X pins σ H s->bp x v->aT xs us->r x xs H Q →
  wpAny (model X.prog X.w) X.A (call (.builtin id) (v::us)) (EP X pins σ Q) X.xe s
section
variable {X:Cx}{a b:Expr}{ta tb:TE}{pos:Pos}
theorem IxR.or{r r':R2}(h:IxR X r)(h':IxR X r'):IxR X (λ x y H Q=>r x y H Q\/r' x y H Q):=by
 intro value slice pins s σ H x y v u Q I rx ry q hs
 rcases q with q|q
 ·exact h value slice pins s σ H x y v u Q I rx ry q hs
 ·exact h' value slice pins s σ H x y v u Q I rx ry q hs
theorem AU{r:R2}(hr:IxR X r)(ha:PE X a ta)(hb:PE X b tb)(hs:DD b):PE X (.Subscript a b pos) (tOp r ta tb):=by
 intro pins s σ H Q I h;exact Subscript_ (HY ha hb I h λ v u s2 x y H2 I2 rx ry q=>hr a b pins s2 σ H2 x y v u Q I2 rx ry q (hs _ _))
def Kr(K:W.Frag):R2:=λ x y H Q=>∃ p xs i v,x=.ref p/\y=.int i/\SqL K H p xs/\atI xs i=some v/\Q v H
def Kq(K:W.Frag):R2:=λ x y H Q=>∃ p xs i v,x=.ref p/\y=.int i/\SqT K H p xs/\atI xs i=some v/\Q v H
theorem oi:IxR X (Kr X.K):=by
 intro value slice pins s σ H x y v u Q I rx ry h hs;obtain⟨p,xs,i,z,rfl,rfl,hq,he,q⟩:=h;cases rx;obtain⟨t,rfl⟩:=ry;obtain⟨its,r,pl,hz⟩:=I.list hq;obtain⟨j,h1,h2,h3,h4,h5⟩:=vm he;obtain⟨w,ew,rw'⟩:=r.get h2;have hl:=r.length;have hn:=lN;have fin:EP X pins σ Q w s:=⟨z,H,I,rw',q⟩
 by_cases h0:0<=i
 ·have hj:i.toNat=j:=by
   rw [seqIndex_of h0 h5] at h1;exact LB h1
  exact item_listR pl.isList h0 (by omega) (by rw [hj];simpa using ew) fin hs
 ·have hj:(i+(its.toArray.size:Int)).toNat=j:=by
   rw [seqIndex_neg (by omega) h4] at h1;rw [Ld,←hl];exact LB h1
  exact subscriptTail_builtinR (x:=w) pl.isList.typeIs slot_list_getitem.lookup
   (wpAny_getItem_list_neg (Q:=λ r s'=>r=w/\EP X pins σ Q r s') pl.isList (by omega) (by rw [Ld]<;>omega) (by omega) (by rw [hj];simpa using ew) ⟨rfl,fin⟩) hs
theorem GX:IxR X (Kq X.K):=by
 intro value slice pins s σ H x y v u Q I rx ry h hs;obtain⟨p,xs,i,z,rfl,rfl,hq,he,q⟩:=h;cases rx;obtain⟨t,rfl⟩:=ry;obtain⟨its,r,pl,hz⟩:=I.tuple hq;obtain⟨j,h1,h2,h3,h4,h5⟩:=vm he;obtain⟨w,ew,rw'⟩:=r.get h2;have hl:=r.length;have hn:=lN;have fin:EP X pins σ Q w s:=⟨z,H,I,rw',q⟩
 exact subscriptTail_builtinR (x:=w) pl.typeIs slot_tuple_getitem.lookup
  (getItem_tuple (j:=j) (Q:=λ r s'=>r=w/\EP X pins σ Q r s') pl (by omega) (by omega) (by rw [Ld,←hl];exact h1) (by simpa using ew) ⟨rfl,fin⟩) hs
theorem qY(its:List Value)(n j:Nat)(u:Value):Obj.mapSeq (·.setIfInBounds j u) { cls:=.type "list",data:=.seq its.toArray n }={ cls:=.type "list",data:=.seq (its.set j u).toArray n }:=by
 simp [Obj.mapSeq]
theorem Inv.lst{pins:List (Addr × Obj)}{σ:St}{H:Hp}{s:Shared}{p:Addr}{xs:List V}(I:Inv X pins σ H s)(h:H p=some (.lst xs)) :
  ∃ (its:List Value) (n:Nat),aT xs its/\s.heap.get? p=some { cls:=.type "list",data:=.seq its.toArray n }/\xs.length<=sizeLine:=by
 obtain⟨z,its,n,r,e⟩:=I.hok p _ h;exact⟨its,n,r,e,z⟩
theorem Inv.lstUpd{pins:List (Addr × Obj)}{σ:St}{H:Hp}{s:Shared}{p:Addr}{xs ys:List V}{its its':List Value}{n n':Nat}{f:Obj->Obj}(I:Inv X pins σ H s)(h:H p=some (.lst xs))
  (ho:s.heap.get? p=some { cls:=.type "list",data:=.seq its.toArray n }) (hf:f { cls:=.type "list",data:=.seq its.toArray n }={ cls:=.type "list",data:=.seq its'.toArray n' }) (r:aT ys its') (hz:ys.length<=sizeLine) (t:Nat) :
  Inv X pins σ (upd H p (.lst ys)) { s with heap:=s.heap.update p f,toks:=t }:=by
 have e:(s.heap.update p f).get? p=some { cls:=.type "list",data:=.seq its'.toArray n' }:=by
  rw [NQ f ho (by rw [hf]<;>rfl),hf]
 refine I.write (x:=p) (e:=p) (by rw [h];trivial) (.inl rfl) (λ b u hb q=>(NK _ _ (Lw hb)).trans q) ⟨_,e⟩ ?_;exact⟨hz,its',n',r,e⟩
def Ea:V->V->V->Hp->(Hp->Prop)->Prop:=λ o i v H Q=>∃ p xs k j,o=.ref p/\i=.int k/\H p=some (.lst xs)/\ixN xs.length k=some j/\Q (upd H p (.lst (xs.set j v)))
theorem pP:Ka X Ea:=by
 intro pins s σ H o i v ov iv u Q I ro ri rv h;obtain⟨p,xs,k,j,rfl,rfl,hp,hj,q⟩:=h;cases ro;obtain⟨t,rfl⟩:=ri;obtain⟨its,n,r,ho,hz⟩:=I.lst hp;obtain⟨h1,h2,h3,h4⟩:=uU hj;have hl:=r.length;have hn:=lN
 have I':Inv X pins σ (upd H p (.lst (xs.set j v))) { s with heap:=s.heap.update p (Obj.mapSeq (·.setIfInBounds j u)) }:=
  I.lstUpd hp ho (qY its n j u) (r.set rv j) (by rw [NO];exact hz) s.toks
 by_cases h0:0<=k
 ·have hk:k.toNat=j:=by
   rw [seqIndex_of h0 h4] at h1;exact LB h1
  exact W.ki_setAt ho h0 (by omega) (by rw [Ld,←hl];exact h4) (by rw [hk];exact⟨_,I',q⟩)
 ·have hk:(k+(its.toArray.size:Int)).toNat=j:=by
   rw [seqIndex_neg (by omega) h3] at h1;rw [Ld,←hl];exact LB h1
  exact W.ki_setBack ho (by omega) (by rw [Ld,←hl];exact h3) (by omega) (by rw [hk];exact⟨_,I',q⟩)
theorem mS(lo hi:Option Int)(n:Nat):(sliceBounds lo hi none n).1=((HT.sIx n 0 lo:Nat):Int)/\(sliceBounds lo hi none n).2.1=((HT.sIx n n hi:Nat):Int)/\(sliceBounds lo hi none n).2.2=1:=by
 refine⟨?_,?_,rfl⟩
 ·cases lo with
  | none=>simp [sliceBounds,HT.sIx]
  | some i=>
   simp only [sliceBounds,HT.sIx,Option.getD_none,show (1:Int) > 0 by decide,NT]
   by_cases h:i < 0
   ·simp only [h,NT]<;>omega
   ·simp only [h,N5]<;>omega
 ·cases hi with
  | none=>simp [sliceBounds,HT.sIx]
  | some i=>
   simp only [sliceBounds,HT.sIx,Option.getD_none,show (1:Int) > 0 by decide,NT]
   by_cases h:i < 0
   ·simp only [h,NT]<;>omega
   ·simp only [h,N5]<;>omega
theorem kW(its:List Value)(lo hi:Option Int):slicePick its.toArray lo hi none=((its.drop (HT.sIx its.length 0 lo)).take (HT.sIx its.length its.length hi - HT.sIx its.length 0 lo)).toArray:=by
 obtain⟨h1,h2,h3⟩:=mS lo hi its.toArray.size;unfold slicePick;rw [h1,h2,h3]
 simp only [sliceRange_one,pick_run,Ld]<;>rfl
def Ko(K:W.Frag):V->Option Int->Option Int->Hp->VK->Prop:=λ x lo hi H Q=>∃ a xs,x=.ref a/\SqL K H a xs/\∀ p,H p=none->Q (.ref p) (upd H p (.lst (jg xs lo hi)))
theorem By:SlR X (Ko X.K):=by
 intro pins s σ H x v vl vu lo hi sl Q I rx hs pl pu h;obtain⟨a,xs,rfl,hx,q⟩:=h;cases rx;obtain⟨its,r,ht,hz⟩:=I.list hx;have hlen:=r.length;refine⟨"list",_,slot_list_getitem.lookup,ht.isList.typeIs,?_⟩;refine wpAny_getItem_list_slice ht.isList hs pl pu .none (by simp) ?_ (by rw [Ld]<;>omega);rw [kW,←hlen];refine⟨.ref s.heap.objs.size,_,I.laid (t':=s.toks) (o:=.lst (jg xs lo hi)) (λ b ob q=>KY _ q) (K3 _) ?_,rfl,q _ (I.hok.fresh (K3 _))⟩;exact⟨LU (iM xs lo hi) hz,_,0,(r.drop (HT.sIx xs.length 0 lo)).take (HT.sIx xs.length xs.length hi - HT.sIx xs.length 0 lo),La _ rfl⟩
theorem cQ:bK X (.builtin "len") (λ xs H Q=>∃ p ys,xs=[.ref p]/\(SqL X.K H p ys\/SqT X.K H p ys)/\Q (.int ys.length) H):=by
 intro pins s σ H xs us Q I r h;obtain⟨p,ys,rfl,hq,q⟩:=h;obtain⟨u,rfl,rx⟩:=sS r;cases rx;have hn:=lN
 rcases hq with hq|hq
 ·obtain⟨its,r',pl,hz⟩:=I.list hq;have hlen:=r'.length;exact Calls.call_len_list pl.isList (by simp only [Ld]<;>omega) ⟨.int ys.length,H,I.tok _,⟨s.toks+1,by rw [Ld,hlen]⟩,q⟩
 ·obtain⟨its,r',pl,hz⟩:=I.tuple hq;have hlen:=r'.length;exact len_tuple pl (by simp only [Ld]<;>omega) ⟨.int ys.length,H,I.tok _,⟨s.toks+1,by rw [Ld,hlen]⟩,q⟩
theorem m7:bK X (.builtin "len") (λ xs H Q=>∃ z,xs=[.str z]/\z.length<=sizeLine/\Q (.int z.length) H):=by
 intro pins s σ H xs us Q I r h;obtain⟨z,rfl,hz,q⟩:=h;obtain⟨u,rfl,t,rfl⟩:=sS r;have hn:=lN;exact len_str (by omega) ⟨.int z.length,H,I.tok _,⟨_,rfl⟩,q⟩
theorem bK.or{f:Value}{r r':List V->Hp->VK->Prop}(h:bK X f r)(h':bK X f r'):bK X f (λ xs H Q=>r xs H Q\/r' xs H Q):=by
 intro pins s σ H xs us Q I rs q
 rcases q with q|q
 ·exact h pins s σ H xs us Q I rs q
 ·exact h' pins s σ H xs us Q I rs q
theorem m6:bK X (.type "list") (λ xs H Q=>∃ p ys,xs=[.ref p]/\(SqL X.K H p ys\/SqT X.K H p ys)/\∀ l,H l=none->Q (.ref l) (upd H l (.lst ys))):=by
 intro pins s σ H xs us Q I r h;obtain⟨p,ys,rfl,hq,q⟩:=h;obtain⟨u,rfl,rx⟩:=sS r;cases rx
 have fin:∀ (its:List Value),aT ys its->ys.length<=sizeLine->∀ (h':Heap) (c':Nat),(∀ b o',s.heap.get? b=some o'->h'.get? b=some o') →
   h'.get? s.heap.objs.size=some { cls:=.type "list",dict:=none,data:=.seq its.toArray c',slots:=#[] }->EP X pins σ Q (.ref s.heap.objs.size) { s with heap:=h' }:=λ its r' hz h' c' kp e=>
  ⟨.ref s.heap.objs.size,_,I.laid (t':=s.toks) kp (K3 _) (show bV X.prog X.w _ h' _ (.lst ys) from ⟨hz,its,c',r',e⟩),rfl,q _ (I.hok.fresh (K3 _))⟩
 rcases hq with hq|hq
 ·obtain⟨its,r',pl,hz⟩:=I.list hq;have hlen:=r'.length;obtain⟨o,ho,hc,n,hd⟩:=pl.isList;exact call_list_seq p (.inl rfl) ho hc hd (λ h' c' kp e=>fin its r' hz h' c' kp e) (by simp only [Ld]<;>omega)
 ·obtain⟨its,r',pl,hz⟩:=I.tuple hq;have hlen:=r'.length;obtain⟨o,ho,hc,n,hd⟩:=pl;exact call_list_seq p (.inr rfl) ho hc hd (λ h' c' kp e=>fin its r' hz h' c' kp e) (by simp only [Ld]<;>omega)
theorem lu:bK X (.type "tuple") (λ xs H Q=>∃ p ys,xs=[.ref p]/\((SqL X.K H p ys/\∀ l,H l=none->Q (.ref l) (upd H l (.tup ys)))\/(SqT X.K H p ys/\Q (.ref p) H))):=by
 intro pins s σ H xs us Q I r h;obtain⟨p,ys,rfl,h⟩:=h;obtain⟨u,rfl,rx⟩:=sS r;cases rx
 rcases h with ⟨hq,q⟩|⟨hq,q⟩
 ·obtain⟨its,r',pl,hz⟩:=I.list hq;have hlen:=r'.length;refine call_tuple_list pl.isList (λ h' kp=>?_) (by simp only [Ld]<;>omega);have I1:Inv X pins σ H { s with heap:=h' }:=I.kept (t':=s.toks) kp
  have I2:Inv X pins σ (upd H h'.objs.size (.tup ys)) { s with heap:=h'.push { cls:=.type "tuple",data:=.seq its.toArray } }:=
   I1.laid (t':=s.toks) (λ b o e=>KY _ e) (K3 _) (show bV X.prog X.w _ _ _ (.tup ys) from ⟨hz,its,r',IsTup.new _ _⟩)
  exact⟨.ref h'.objs.size,_,I2,rfl,q _ (I1.hok.fresh (K3 _))⟩
 ·obtain⟨its,r',pl,hz⟩:=I.tuple hq;exact call_tuple_same pl ⟨.ref p,H,I,rfl,q⟩
def tyV(K:W.Frag)(T:String)(x:V)(H:Hp):Prop:=match x with
 | .str _=>T = "str"
 | .int _=>T = "int"
 | .ref p=>(T = "list" /\ ∃ xs,SqL K H p xs)\/(T = "tuple" /\ ∃ o,K.lookup p=some o/\o.cls=.type "tuple" /\ o.dict=none) \/
   (T = "dict" /\ ((∃ kvs,H p=some (.dK kvs))\/∃ kvs,H p=some (.dT kvs)))\/(T = "set" /\ ∃ S n,H p=some (.set S n))
 | _=>False
theorem Ad{pins:List (Addr × Obj)}{σ:St}{H:Hp}{s:Shared}{T:String}{x:V}{v:Value}(I:Inv X pins σ H s)(r:bp x v)(ty:tyV X.K T x H) :
  s.TypeIs v T/\∀ a,v=.ref a->∃ ob,s.heap.get? a=some ob/\ob.dict=none:=by
 cases x with
 | str z=>
  obtain⟨t,rfl⟩:=r;cases (show T = "str" from ty);exact⟨typeIs_str s z t,λ _ e=>nomatch e⟩
 | int i=>
  obtain⟨t,rfl⟩:=r;cases (show T = "int" from ty);exact⟨typeIs_int s i t,λ _ e=>nomatch e⟩
 | ref p=>
  cases r
  rcases ty with ⟨rfl,xs,hq⟩|⟨rfl,o,hk,hc,hd⟩|⟨rfl,hk⟩|⟨rfl,S,n,hk⟩
  ·obtain⟨its,_,pl,_⟩:=I.list hq;refine⟨pl.isList.typeIs,λ a e=>?_⟩;cases e;obtain⟨o,n,e,c,hd,_⟩:=pl;exact⟨o,e,hd⟩
  ·refine⟨⟨o,I.kIn p o hk,hc⟩,λ a e=>?_⟩;cases e;exact⟨o,I.kIn _ o hk,hd⟩
  ·have z:∃ o,s.heap.get? p=some o/\o.ExactDict:=by
    rcases hk with ⟨kvs,hk⟩|⟨kvs,hk⟩
    ·obtain⟨_,_,_,_,o,_,_,e,ex,_⟩:=I.hok p _ hk;exact⟨o,e,ex⟩
    ·obtain⟨_,_,_,_,o,_,_,e,ex,_⟩:=I.hok p _ hk;exact⟨o,e,ex⟩
   obtain⟨o,e,ex⟩:=z;refine⟨⟨o,e,ex.1⟩,λ a e2=>?_⟩;cases e2;exact⟨o,e,ex.2.1⟩
  ·obtain⟨o,_,_,_,e,ex,_⟩:=I.hok p _ hk;refine⟨⟨o,e,ex.1⟩,λ a e2=>?_⟩;cases e2;exact⟨o,e,ex.2.1⟩
 | _=>exact False.elim ty
def Jz(K:W.Frag)(T:String)(r:V->List V->Hp->VK->Prop)(to:TE):TE:=λ σ H Q=>to σ H λ x H1=>tyV K T x H1/\r x [] H1 Q
def tBM(K:W.Frag)(T:String)(r:V->List V->Hp->VK->Prop)(to:TE)(t:TA):TE:=λ σ H Q=>to σ H λ x H1=>tyV K T x H1/\t σ H1 λ xs H2=>r x xs H2 Q
variable {o e:Expr}{es:List Expr}{to:TE}{t:TA}{name:Str}{apos cpos:Pos}{T id:String}{r:V->List V->Hp->VK->Prop}
theorem E3(pa:PlainAttrs T)(slot:Slot T name id)(hty:typeOf (.builtin id)=pure (.type "method_descriptor"))(hm:MtR X id r)(ho:PE X o to)
  (hbase:attributeBase o name X.env (eval o X.env)=eval o X.env:=by rfl) (hline:(apos.endLine == cpos.line)=true:=by rfl):PE X (.Call (.Attribute o name apos) [] [] cpos) (Jz X.K T r to):=by
 intro pins s σ H Q I h;refine wpAny_Call_method0_late hbase hline (thn (ho pins s σ H _ I h) λ v s1 ⟨x,H1,I1,r1,ty,q1⟩=>?_);obtain⟨h1,h2⟩:=Ad I1 r1 ty;exact⟨T,id,pa,slot,hty,h1,h2,NL rfl (PySem.evalArgs_none (hm pins s1 σ H1 x [] v [] Q I1 r1 .nil q1))⟩
theorem Ik(pa:PlainAttrs T)(slot:Slot T name id)(hty:typeOf (.builtin id)=pure (.type "method_descriptor"))(hm:MtR X id r)(ho:PE X o to)(ha:PA X (e::es) t)
  (hbase:attributeBase o name X.env (eval o X.env)=eval o X.env:=by rfl)
  (hfew:((backTo cpos (starEach (e::es) X.env)).all (λ x=>!x.1) && (backToKw cpos (keywordEach [] X.env)).all (λ x=>x.1.isSome)
   && decide ((e::es).length+([]:List Keyword).length+(if ([]:List Keyword).isEmpty then 0 else 1) < 30))=true:=by rfl)
  (hline:(apos.endLine == cpos.line)=true:=by rfl) (hs:starEach (e::es) X.env=(false,eval e X.env)::starEach es X.env:=by rfl) (hplain:(backTo cpos (starEach es X.env)).any (·.1)=false:=by rfl) :
  PE X (.Call (.Attribute o name apos) (e::es) [] cpos) (tBM X.K T r to t):=by
 intro pins s σ H Q I h;refine wpAny_Call_method_late hbase hfew hline rfl (thn (ho pins s σ H _ I h) λ v s1 ⟨x,H1,I1,r1,ty,q1⟩=>?_);obtain⟨h1,h2⟩:=Ad I1 r1 ty;refine⟨T,id,pa,slot,hty,h1,h2,?_⟩;have hA:=ha cpos pins s1 σ H1 _ I1 q1;rw [hs] at hA ⊢;refine NL (by show (false || (backTo cpos (starEach es X.env)).any (·.1))=false;rw [hplain]<;>rfl) (Calls.evalArgs_plain ?_);exact thn hA λ us s2 ⟨vs,H2,I2,r2,q2⟩=>hm pins s2 σ H2 x vs v us Q I2 r1 r2 q2
end
def MtM(X:Cx)(id:String)(r:V->List V->Hp->VK->Prop):Prop:=
 ∀ (pins:List (Addr × Obj)) (s:Shared) (σ:St) (H:Hp) (x:V) (xs:List V) (v:Value) (us:List Value) (Q:VK),Inv X pins σ H s->bp x v->aT xs us->r x xs H Q →
  wpAny (model X.prog X.w) X.A (call (.builtin id) (v::us)) (EP X pins σ Q) X.xe s
theorem aT.one:∀ {x:V}{us:List Value},aT [x] us->∃ u,us=[u]/\bp x u
 | _,_,.cons r .nil=>⟨_,rfl,r⟩
theorem aT.zero:∀ {us:List Value},aT [] us->us=[]
 | _,.nil=>rfl
theorem aT.dropLast{xs:List V}{us:List Value}(h:aT xs us):aT xs.dropLast us.dropLast:=by
 induction h with
 | nil=>exact .nil
 | cons r t ih=>
  cases t with
  | nil=>exact .nil
  | cons q t'=>exact .cons r ih
theorem aT.reverse{xs:List V}{us:List Value}(h:aT xs us):aT xs.reverse us.reverse:=by
 induction h with
 | nil=>exact .nil
 | cons r t ih=>rw [Mx,Mx];exact aT.append ih (.cons r .nil)
theorem rT{α:Type}(l:List α):l.eraseIdx (l.length - 1)=l.dropLast:=by
 induction l with
 | nil=>rfl
 | cons a r ih=>
  cases r with
  | nil=>rfl
  | cons b r=>
   have e:(a::b::r).length - 1=((b::r).length - 1)+1:=by
    have h1:(a::b::r).length=r.length+2:=rfl;have h2:(b::r).length=r.length+1:=rfl;omega
   rw [e,List.eraseIdx_cons_succ,ih]
   all_goals rfl
section
variable {X:Cx}{pins:List (Addr × Obj)}{σ:St}{H:Hp}{s:Shared}{l b:Addr}{xs ys zs:List V}
theorem Inv.lset{its its':List Value}{n:Nat}{f:Array Value->Array Value}{t':Nat}(I:Inv X pins σ H s)(hH:H l=some (.lst xs))
  (e:s.heap.get? l=some { cls:=.type "list",data:=.seq its.toArray n }) (hf:f its.toArray=its'.toArray) (hv:aT ys its') (hz:ys.length<=sizeLine) :
  Inv X pins σ (upd H l (.lst ys)) { s with heap:=s.heap.update l (Obj.mapSeq f),toks:=t' }:=by
 have q:=PySem.IsL.update e f;rw [hf] at q;refine I.write (x:=l) (e:=l) (by rw [hH];exact trivial) (.inl rfl) (λ b' u hb hu=>(NK s.heap (Obj.mapSeq f) (Lw hb)).trans hu) ⟨_,q⟩ ?_;exact⟨hz,its',_,hv,q⟩
theorem Inv.lnew{its:List Value}{t':Nat}(I:Inv X pins σ H s)(hv:aT ys its)(hz:ys.length<=sizeLine) :
  Inv X pins σ (upd H s.heap.objs.size (.lst ys)) { s with heap:=s.heap.push { cls:=.type "list",data:=.seq its.toArray },toks:=t' }:=
 I.laid (λ _ _ q=>KY _ q) (K3 _) ⟨hz,its,0,hv,La _ rfl⟩
theorem Inv.fresh(I:Inv X pins σ H s):H s.heap.objs.size=none:=I.hok.fresh (K3 _)
theorem Inv.lstM(I:Inv X pins σ H s)(hH:H l=some (.lst xs)):xs.length<=sizeLine/\∃ (its:List Value) (n:Nat),aT xs its/\xs.length=its.length/\s.heap.get? l=some { cls:=.type "list",data:=.seq its.toArray n }:=by
 obtain⟨z,its,n,r,e⟩:=I.hok l _ hH;exact⟨z,its,n,r,r.length,e⟩
theorem ym{n:Nat}(h:n<=sizeLine):Builtin.List.listTooLong n=false:=by
 unfold Builtin.List.listTooLong;exact decide_eq_false (by omega)
end
section
variable {X:Cx}
def uG:V->List V->Hp->VK->Prop:=λ x vs H Q=>∃ l xs y,x=.ref l/\vs=[y]/\H l=some (.lst xs)/\xs.length < sizeLine/\Q .non (upd H l (.lst (xs++[y])))
theorem cu:MtM X "list.append" uG:=by
 intro pins s σ H x vs v us Q I rx rv h;obtain⟨l,xs,y,rfl,rfl,hH,hz,q⟩:=h;cases rx;obtain⟨u,rfl,ru⟩:=rv.one;obtain⟨z,its,n,r,hl,e⟩:=I.lstM hH;refine call_meets F.slot_list_append ⟨_,e,rfl⟩ F.entry_list_append (F.args_list_append_2 _ _) (PySem.list_append l its.toArray n u (by rw [Ld];omega)) ⟨e,?_⟩;refine⟨.non,_,I.lset (its':=its++[u]) hH e (by simp) (r.append (.cons ru .nil)) ?_,rfl,q⟩;rw [K4,K9];omega
def uF:V->List V->Hp->VK->Prop:=λ x vs H Q=>∃ l b xs zs,x=.ref l/\vs=[.ref b]/\H l=some (.lst xs)/\H b=some (.lst zs)/\xs.length+zs.length<=sizeLine/\Q .non (upd H l (.lst (xs++zs)))
theorem mh:MtM X "list.extend" uF:=by
 intro pins s σ H x vs v us Q I rx rv h;obtain⟨l,b,xs,zs,rfl,rfl,hH,hB,hz,q⟩:=h;cases rx;obtain⟨u,rfl,ru⟩:=rv.one;cases ru;obtain⟨z,its,n,r,hl,e⟩:=I.lstM hH;obtain⟨z2,its2,n2,r2,hl2,e2⟩:=I.lstM hB;have hsz:its.toArray.size+its2.toArray.size<=sizeLine:=by rw [Ld,Ld];omega
 have hlong:¬ (!its.toArray.isEmpty && Builtin.List.listTooLong (its.toArray.size+its2.toArray.size))=true:=by
  rw [ym hsz,NI];exact Lg
 refine call_meets F.slot_list_extend ⟨_,e,rfl⟩ F.entry_list_extend (F.args_list_extend_2 _ _)
  (AutoSeq1.list_extend_list_list_0 l its.toArray n b its2.toArray n2 hlong (by rw [Ld];omega) (by omega)) ⟨e,e2,?_⟩
 refine⟨.non,_,I.lset (its':=its++its2) hH e (by simp) (r.append r2) ?_,rfl,q⟩;rw [K4];omega
def JC:V->List V->Hp->VK->Prop:=λ x vs H Q=>∃ l xs y,x=.ref l/\vs=[]/\H l=some (.lst xs)/\xs[xs.length - 1]? = some y/\Q y (upd H l (.lst xs.dropLast))
theorem uj:MtM X "list.pop" JC:=by
 intro pins s σ H x vs v us Q I rx rv h;obtain⟨l,xs,y,rfl,rfl,hH,hy,q⟩:=h;cases rx;have hus:=rv.zero;subst hus;obtain⟨z,its,n,r,hl,e⟩:=I.lstM hH;obtain⟨u,hu,ru⟩:=r.get hy
 have hy':its.toArray[its.toArray.size - 1]? = some u:=by
  show its.toArray[its.length - 1]? = some u
  rw [←Array.getElem?_toList,←hl];exact hu
 refine call_meets F.slot_list_pop ⟨_,e,rfl⟩ F.entry_list_pop (F.args_list_pop_1 _) (MeetsSeq.list_pop_last l its.toArray n u hy' (by rw [Ld];omega)) ⟨e,?_⟩;refine⟨y,_,I.lset (its':=its.dropLast) hH e ?_ r.dropLast ?_,ru,q⟩
 ·show its.toArray.eraseIdxIfInBounds (its.toArray.size - 1)=its.dropLast.toArray
  rw [Ld,List.eraseIdxIfInBounds_toArray,rT]
 ·rw [List.length_dropLast];omega
def pT:V->List V->Hp->VK->Prop:=λ x vs H Q=>∃ l xs,x=.ref l/\vs=[]/\H l=some (.lst xs)/\Q .non (upd H l (.lst xs.reverse))
theorem gb:MtM X "list.reverse" pT:=by
 intro pins s σ H x vs v us Q I rx rv h;obtain⟨l,xs,rfl,rfl,hH,q⟩:=h;cases rx;have hus:=rv.zero;subst hus;obtain⟨z,its,n,r,hl,e⟩:=I.lstM hH;refine call_meets F.slot_list_reverse ⟨_,e,rfl⟩ F.entry_list_reverse (F.args_list_reverse_1 _) (AutoSeq1.list_reverse_list_0 l its.toArray n (by rw [Ld];omega)) ⟨e,?_⟩;refine⟨.non,_,I.lset (its':=its.reverse) hH e (by simp) r.reverse ?_,rfl,q⟩;rw [LA];omega
def JD:R2:=λ x y H Q=>∃ l b xs zs,x=.ref l/\y=.ref b/\H l=some (.lst xs)/\H b=some (.lst zs)/\xs.length+zs.length<=sizeLine/\∀ p,H p=none->Q (.ref p) (upd H p (.lst (xs++zs)))
theorem Fb:OpR X (binaryOp .Add) JD:=by
 intro pins s σ H x y v u Q I rx ry h;obtain⟨l,b,xs,zs,rfl,rfl,hH,hB,hz,q⟩:=h;cases rx;cases ry;obtain⟨z,its,n,r,hl,e⟩:=I.lstM hH;obtain⟨z2,its2,n2,r2,hl2,e2⟩:=I.lstM hB;refine PySem.P.add_list e e2 ?_ (by rw [Ld,Ld];omega);have ea:its.toArray++its2.toArray=(its++its2).toArray:=by simp
 rw [ea];exact⟨.ref _,_,I.lnew (t':=s.toks) (r.append r2) (by rw [K4];omega),rfl,q _ I.fresh⟩
end
section
variable {prog:Program}{w:World}{A:Around}{E:Value->Shared->Prop}{s:Shared}
end
section
variable {X:Cx}
end
end L2
namespace Att
open PySem PySem.W PySem.Calls PyProof.Rows
theorem iU{P:Params}{h:Heap}:∀ (ns:List Int) (vs:List Value),WellAll P h vs (ns.map WData.int)->IntsAre vs ns:=by
 intro ns
 induction ns with
 | nil=>
  intro vs w;rw [List.map_nil] at w;cases w;exact .nil
 | cons n ns ih=>
  intro vs w;rw [LG] at w
  cases w with
  | cons a b=>
   cases a;exact .cons _ _ (ih _ b)
theorem vA{l:OpenLaw}{n:Nat}(hn:l.most=some n){P:Params}{h:Heap}{args:List WData}{vals:List Value}
  (hpre:l.row.toRowW.claim.pre args=true) (hwl:WellAll P h vals args) :
  ∃ a vs ns,vals=[Value.ref a]/\args=[WData.list (ns.map WData.int)]/\h.get? a=some { cls:=.type "list",data:=.seq vs.toArray }/\IntsAre vs ns/\ns.length<=n:=by
 have hsh:WShape.hasAll [] args [.list .int]=true:=(pre_splitW hpre).1;have hc:l.pre.holds [] { args:=args }=true:=(pre_splitW hpre).2;obtain⟨d,r,rfl,h1,h2⟩:=hasAllW_cons hsh;obtain rfl:=hasAllW_nil h2;obtain⟨xs,rfl,h3⟩:=hasW_list h1;obtain⟨ns,rfl⟩:=items_int h3
 have hlen:ns.length<=n:=by
  unfold OpenLaw.pre at hc
  have h4:(WTm.not (.lt (.lit (.int (n:Int))) (.len (.arg 0)))).holds [] { args:=[.list (ns.map .int)] }=true:=by
   have h4:=(holds_andW hc).1;rw [hn] at h4;exact h4
  have h5:=condW_of h4 (w_not (w_lt w_lit (w_len_list (w_arg rfl))));rw [K2] at h5;refine N2 λ q=>?_;have q':(n:Int) < ((ns.length:Nat):Int):=by omega
  first
   | (rw [Ll q'] at h5;exact absurd h5 (by decide))
   | (simp at h5;omega)
 cases hwl with
 | cons w1 w2=>
  cases w2
  cases w1 with
  | list ho hall=>exact⟨_,_,ns,rfl,rfl,ho,iU ns _ hall,hlen⟩
theorem vC(l:OpenLaw)(args:List WData):l.row.toRowW.claim.post args (.bool true) args=true:=
 postW_of (r:=l.row.toRowW) (X:=(true == true))
  (show WShape.has [] (.bool true) .bool=true by first|rfl|decide|simp [WShape.has,WShape.arms,WShape.armsAll])
  (show (WTm.eq .res (.lit (.bool true))).value [] { args:=args,res:=some (.bool true),after:=args }=some (.bool (true == true)) from w_eq_bool (w_res rfl) w_lit) rfl
theorem attach_call{l:OpenLaw}{n:Nat}{q:Program}{loose:List Str}{XP:(Str->Option Value)->Heap->Prop}{YP:World->Heap->Prop}{d:DefRec}
  (hn:l.most=some n) (hdf:d.params.defaults=[])
  (call:∀ (w:World) (s₀ s₁:Shared) (mg mb:Str->Option Value) (fa:Addr) (o:Obj) (pm cd doc:Value) (a:Addr) (vs:List Value) (ns:List Int),
   Ground q loose [] XP w s₀ mg mb s₁.heap->YP w s₁.heap →
   s₁.heap.get? fa=some o->o.data=.func (docDef d.name d.params d.body d.scope pm cd doc)->s₁.heap.CodeRec cd d.name->mg d.name=some (.ref fa) →
   s₁.heap.get? a=some { cls:=.type "list",data:=.seq vs.toArray }->IntsAre vs ns->ns.length<=n->s₁.gens=#[] →
   codeAny (model l.prog w) callerA (.call (.ref fa) ⟨[.ref a],[]⟩) (λ r s'=>r=.ok (.ret (.bool true))/\OldK s₁.heap s'.heap/\s'.os=s₁.os/\AllBare s'.gens) s₁) :
  WalkO q loose XP YP l.row.toRowW d [] (λ f vs=>PySem.call f vs):=by
 intro w s₀ s₁ mg mb G Y fa o pm cd doc dV kV ho hd hcd hD hmg hg args vals as hpre hlay hrd hwl hlo;obtain rfl:dV=.none:=Dflts.none hD hdf;obtain rfl:kV=.none:=Dflts.noKw hD;obtain⟨a,vs,ns,rfl,rfl,hobj,hints,hlen⟩:=vA hn hpre hwl;refine enter_call (Nm (call w s₀ s₁ mg mb fa o pm cd doc a vs ns G Y ho (fd_plain hd) hcd hmg hobj hints hlen hg) λ r s' hq=>?_);obtain⟨rfl,h2,h3,h4⟩:=hq;exact⟨.inl ⟨.bool true,.bool true,[],rfl,λ _=>rfl,.bool true,vC l _,λ _=>⟨List.Pairwise.nil,λ _ hm=>(nomatch hm)⟩⟩,h2,h3,h4⟩
section
variable {prog:Program}{w:World}{A:Around}{E:Value->Shared->Prop}{s:Shared}{K:Frag}
def Ke(h:Heap)(L d:Addr):List (Addr × Obj):=(List.range h.objs.size).filterMap λ a=>if a=L\/a=d then none else (h.get? a).map λ o=>(a,o)
end
end Att
namespace L2
open PySem PySem.Spec PyProof.Rows
theorem lS:∀ {vs:List Value}{ns:List Int},IntsAre vs ns->aT (ns.map V.int) vs
 | _,_,.nil=>.nil
 | _,_,.cons n t h=>.cons ⟨t,rfl⟩ (lS h)
def Ia(H:Hp):Prop:=∀ b,H b=none\/∃ o xs,H b=some (.frz o (.lst xs))
theorem yG{P:Program}{w:World}{K:W.Frag}{mg mb:Str->Option Value}{CX:CXT}{k:Nat}{fa a:Addr}{fd:FuncData}{x:Str}{sp:Sp}{s₁:Shared}{vs:List Value}{ns:List Int}
  (KX:K.In s₁.heap) (hns:s₁.heap.Ns mainGlobals mg) (hb:s₁.heap.Ns builtinsNs mb) (hbb:∀ x:Str,x ≠ "__name__" → mb x=bootBuiltins x) (hlim:s₁.heap.NoLimit) (hg:s₁.gens=#[])
  (ha:s₁.heap.get? a=some { cls:=.type "list",data:=.seq vs.toArray }) (hi:IntsAre vs ns) (hl:ns.length<=sizeLine) (hr:gE k callerA)
  (F:∀ base:Heap,K.In base->base.Ns mainGlobals mg->bC P w K mg base CX k fa fd [x] sp) (hbind:∀ (s:Shared) (u:Value),BindsTo s fd ⟨[u],[]⟩ [(x,u)])
  (hsp:∀ H:Hp,Ia H->SqL K H a (ns.map V.int)->sp [.ref a] H (λ v _=>v=.bl true) λ _ _ _=>False)
  (hCX:∀ H e s',CX [] H s₁ (λ _ _ _=>False) e s'->False) :
  codeAny (model P w) callerA (.call (.ref fa) ⟨[.ref a],[]⟩) (λ r s'=>r=.ok (.ret (.bool true))/\OldK s₁.heap s'.heap/\s'.os=s₁.os/\AllBare s'.gens) s₁:=by
 have rv:=lS hi;have lenV:=hi.length
 have core:∀ H:Hp,Ia H->SqL K H a (ns.map V.int)->HOk P w H s₁.heap->(∀ b,H b ≠ none->b=a)->(H a ≠ none->K.lookup a=none) →
   codeAny (model P w) callerA (.call (.ref fa) ⟨[.ref a],[]⟩) (λ r s'=>r=.ok (.ret (.bool true))/\OldK s₁.heap s'.heap/\s'.os=s₁.os/\AllBare s'.gens) s₁:=by
  intro H hO hS hok hA hK;have base_of:∀ {b:Addr} {o:Obj},s₁.heap.get? b=some o->H b=none->(xw s₁.heap H).get? b=some o:=λ e n=>zc e n
  have noA:∀ {b:Addr} {o:Obj} {es:Array DictEntry} {ep:Nat},s₁.heap.get? b=some o->o.data=.dict es ep->H b=none:=λ {b o es ep} e d=>by
   cases q:H b with
   | none=>rfl
   | some u=>
    have e':b=a:=hA b (by rw [q];simp);subst e';rw [ha] at e;cases e;have d':Data.seq vs.toArray _=Data.dict es ep:=d;cases d'
  have nsK:∀ {b:Addr} {m:Str->Option Value},s₁.heap.Ns b m->(xw s₁.heap H).Ns b m:=λ {b m} ⟨o,es,ep,e,d,r⟩=>⟨o,es,ep,base_of e (noA e d),d,r⟩
  have hKb:K.In (xw s₁.heap H):=λ b o e=>base_of (KX b o e) (by
   cases q:H b with
   | none=>rfl
   | some u=>
    have e':b=a:=hA b (by rw [q];simp);subst e';rw [hK (by rw [q];simp)] at e;cases e)
  have hM:Mod K mg (xw s₁.heap H):=⟨hKb,nsK hns,⟨mb,nsK hb,hbb⟩,let ⟨mc,h1,h2⟩:=hlim;⟨mc,nsK h1,h2⟩⟩;have e0:Ab P w K mg (xw s₁.heap H) callerA [] s₁ H:=⟨rfl,hM,λ b o e=>BY e,Nat.le_of_eq (wU _ _),trivial,λ b hb=>absurd (show b∈([]:List Addr) from hb) (by simp),hok,.of_eq hg⟩;refine Nm ((F _ hKb (nsK hns)).run callerA [] s₁ H ⟨[.ref a],[]⟩ [.ref a] [.ref a] _ _ hr e0 (hbind s₁ (.ref a)) (.cons rfl .nil) (hsp H hO hS)) λ r s' h=>?_
  cases r with
  | error e=>exact(hCX H e s' h).elim
  | ok fl=>
   cases fl with
   | next=>exact False.elim h
   | brk=>exact False.elim h
   | cont=>exact False.elim h
   | ret u=>
    obtain⟨v,H',os,bare,un,hok',r',q⟩:=h;have q':v=.bl true:=q;subst q';obtain rfl:u=Value.bool true:=r';refine⟨rfl,OldK.of_keep λ b o e=>?_,os,bare⟩
    cases q:H b with
    | none=>exact un.keep b o e q (by intro z;exact absurd (show b∈([]:List Addr) from z) (by simp)) (by simp)
    | some u=>
     rcases hO b with z|⟨ob,xs,z⟩
     ·rw [q] at z;cases z
     ·have z2:=un.frzs b ob _ z;obtain⟨e1,_⟩:=hok b _ z;obtain⟨e2,_⟩:=hok' b _ z2;rw [e] at e1;cases e1;exact e2
 cases hk:K.lookup a with
 | some o=>
  have e:=KX a o hk;rw [ha] at e;cases e;refine core (λ _=>none) (λ _=>.inl rfl) (.inr ⟨_,vs.toArray,_,hk,rfl,rfl,rfl,by rw [Ld,lenV];exact hl,by simpa using rv⟩) (λ b u z=>by have z':(none:Option HO)=some u:=z;cases z') (λ b z=>absurd rfl z) λ z=>absurd rfl z
 | none=>
  refine core (λ b=>if b=a then some (.frz { cls:=.type "list",data:=.seq vs.toArray } (.lst (ns.map V.int))) else none) (λ b=>?_) (.inl (.inr ⟨{ cls:=.type "list",data:=.seq vs.toArray },K7 rfl⟩)) (λ b u z=>?_) (λ b z=>?_) λ _=>hk
  ·by_cases hb:b=a
   ·exact .inr ⟨_,_,K7 hb⟩
   ·exact .inl (K5 hb)
  ·by_cases hb:b=a
   ·have z':=(K7 hb).symm.trans z;cases z';subst hb;exact⟨ha,by rw [K2];exact hl,vs,_,rv,ha⟩
   ·have z':=(K5 hb).symm.trans z;cases z'
  ·by_cases hb:b=a
   ·exact hb
   ·exact absurd (K5 hb) z
abbrev KOf{K:PySem.W.Frag}{h:Heap}(_:K.In h):PySem.W.Frag:=K
theorem Jo{l:W.OpenLaw}{n k:Nat}{q:Program}{loose:List Str}{XP:(Str->Option Value)->Heap->Prop}{YP:World->Heap->Prop}{d:DefRec}{K:Params->W.Frag}{CX:World->CXT}{sp:World->Sp}{x:Str}
  (hn:l.most=some n) (hn2:n<=sizeLine) (hdf:d.params.defaults=[]) (hr:gE k callerA)
  (hY:∀ (w:World) (h:Heap),YP w h->(K w.params).In h)
  (F:∀ (w:World) (mg:Str->Option Value) (fa:Addr) (h:Heap),(K w.params).In h->h.Ns mainGlobals mg->mg d.name=some (.ref fa) →
   ∃ fd:FuncData,(∀ (s:Shared) (u:Value),BindsTo s fd ⟨[u],[]⟩ [(x,u)]) /\
    ∀ base:Heap,(K w.params).In base->base.Ns mainGlobals mg->bC l.prog w (K w.params) mg base (CX w) k fa fd [x] (sp w))
  (hsp:∀ (w:World) (H:Hp) (a:Addr) (ns:List Int),ns.length<=n->Ia H->SqL (K w.params) H a (ns.map V.int)->sp w [.ref a] H (λ v _=>v=.bl true) λ _ _ _=>False)
  (hCX:∀ (w:World) (H:Hp) (s:Shared) (e:Value) (s':Shared),CX w [] H s (λ _ _ _=>False) e s'->False) :
  W.WalkO q loose XP YP l.row.toRowW d [] (λ f vs=>PySem.call f vs):=by
 refine Att.attach_call hn hdf λ w s₀ s₁ mg mb fa o pm cd doc a vs ns G Y ho hd hcd hmg hobj hints hlen hg=>?_;have KX:=hY w _ Y;obtain⟨fd,hb,hF⟩:=F w mg fa _ KX G.T.g hmg;exact yG KX G.T.g G.T.b G.T.builtins G.T.nolimit hg hobj hints (LU hlen hn2) hr hF hb (λ H hO hS=>hsp w H a ns hlen hO hS) λ H e s'=>hCX w H s₁ e s'
def fN(s:Stmt)(j:Nat):Stmt:=match s with
 | .ClassDef _ _ _ body _ _ _ _ _ _ _=>body.getD j (.Pass ⟨0,0,0,0⟩)
 | _=>.Pass ⟨0,0,0,0⟩
def cY(s:Stmt):Arguments:=match s with
 | .FunctionDef _ a _ _ _ _ _ _ _ _=>a
 | _=>{ posonlyargs:=[],args:=[],vararg:=none,kwonlyargs:=[],kw_defaults:=[],kwarg:=none,defaults:=[] }
def b9(s:Stmt):List Stmt:=match s with
 | .FunctionDef _ _ b _ _ _ _ _ _ _=>b
 | _=>[]
def aa(s:Stmt):Scope:=match s with
 | .FunctionDef _ _ _ _ _ _ sc _ _ _=>sc
 | _=>{ kind:=.function,names:=[],isGenerator:=false,isCoroutine:=false }
abbrev CX0:CXT:=λ _ _ _ _ _ _=>False
abbrev E0:XK:=λ _ _ _=>False
theorem sX{X:Cx}:jl CX0 X E0:=λ _ _ _ _ _ _ _ h=>h.elim
structure Fun(K:W.Frag)(x qual:Str)(st:Stmt)(f:Addr)(fd:FuncData):Prop where
 ex:∃ (oc:Value) (od:Option Addr) (kV doc pm:Value) (an:Option Addr) (cdv ct:Value) (osl:Array (Option Value)),
  fd=W.fnOf x qual (cY st) (b9 st) (aa st) .none kV doc pm an cdv ct/\K.lookup f=some ⟨oc,od,.func fd,osl⟩/\W.codeIn K cdv qual=true
 kp:W.keepIn K (.ref f)=true
section
variable {P:Program}{w:World}{K:PySem.W.Frag}{mg:Str->Option Value}{base:Heap}
theorem Fun.ok{x qual:Str}{st:Stmt}{f:Addr}{fd:FuncData}{N ps:List Str}{k:Nat}{sp:Sp}(F:Fun K x qual st f fd)(S:ao N ps (aa st))(len:∀ vs H Q E,sp vs H Q E->vs.length=ps.length)
  (hbody:∀ (cdv:Value) (A:Around) (outer:List Env) (s:Shared) (H:Hp) (vs:List V) (Q:VK) (E:XK),gE k (A.deeper (envOfC qual (aa st) s.heap.objs.size f cdv))->sp vs H Q E →
   ∃ t,PSs (zY CX0 P w K mg base N qual (aa st) f cdv A outer s H E).nox (b9 st) t/\t { nx:=λ _ H'=>Q .non H',rt:=Q } (start N vs) H):bC P w K mg base CX0 (k+1) f fd ps sp:=by
 obtain⟨oc,od,kV,doc,pm,an,cdv,ct,osl,rfl,lk,hcd⟩:=F.ex;refine Ex lk hcd S len λ A outer s H vs Q E hr hsp=>?_;obtain⟨t,h,q⟩:=hbody cdv A outer s H vs Q E hr hsp;exact⟨t,h.nox,q⟩
theorem Fun.binds{x qual:Str}{st:Stmt}{f:Addr}{fd:FuncData}{ps:List Str}(F:Fun K x qual st f fd)
  (h:∀ (kV doc pm:Value) (an:Option Addr) (cdv ct:Value) (us:List Value),us.length=ps.length->bindArgs (W.fnOf x qual (cY st) (b9 st) (aa st) .none kV doc pm an cdv ct) ⟨us,[]⟩=pure (ps.zip us)):aA K fd ps []:=by
 obtain⟨oc,od,kV,doc,pm,an,cdv,ct,osl,rfl,lk,hcd⟩:=F.ex;exact .all (h kV doc pm an cdv ct)
theorem GZ{x qual:Str}{st:Stmt}{f:Addr}{oc:Value}{od an:Option Addr}{osl:Array (Option Value)}{kV doc pm cdv ct:Value}(l:K.lookup f=some ⟨oc,od,.func (W.fnOf x qual (cY st) (b9 st) (aa st) .none kV doc pm an cdv ct),osl⟩)
  (c:W.codeIn K cdv qual=true) (k:W.keepIn K (.ref f)=true):Fun K x qual st f (W.fnOf x qual (cY st) (b9 st) (aa st) .none kV doc pm an cdv ct):=⟨⟨oc,od,kV,doc,pm,an,cdv,ct,osl,rfl,l,c⟩,k⟩
end
theorem vz{n:Nat}(h:n<=1000):n < sizeLine:=Nat.lt_of_le_of_lt h (by decide)
section
variable {X:Cx}
theorem pv(i:Nat){x:Str}{pos:Pos}(hN:X.N[i]? = some x:=by rfl)(hv:Vis X.env.scope x:=by first|exact Or.inl rfl|exact Or.inr (Or.inl rfl)|exact Or.inr (Or.inr rfl))(hd:(x == ("__debug__":Str))=false:=by decide)
  (hcd:(x == ("__classdict__":Str))=false:=by decide):PE X (.Name x pos) (G9 i):=EZ hN hv hd hcd
end
theorem J0{c A B:Prop}[Decidable c](h1:c->A)(h2:¬ c->B):if c then A else B:=by
 by_cases h:c
 ·rw [K7 h];exact h1 h
 ·rw [K5 h];exact h2 h
def dS(H H':Hp):Prop:=∀ b o,H b=some o->H' b=some o
theorem dS.refl(H:Hp):dS H H:=λ _ _ h=>h
theorem dS.trans{H H1 H2:Hp}(a:dS H H1)(b:dS H1 H2):dS H H2:=λ c o h=>b c o (a c o h)
theorem dS.free{H H':Hp}(e:dS H H'){l:Addr}(h:H' l=Option.none):H l=Option.none:=by
 cases q:H l with
 | none=>rfl
 | some o=>
  rw [e l o q] at h;cases h
theorem dS.seq{K:W.Frag}{H H':Hp}{a:Addr}{xs:List V}(e:dS H H')(h:SqL K H a xs):SqL K H' a xs:=by
 rcases h with (h|⟨o,h⟩)|h
 ·exact .inl (.inl (e _ _ h))
 ·exact .inl (.inr ⟨o,e _ _ h⟩)
 ·exact .inr h
section
variable {κ:Type}[DecidableEq κ]
def dr(kvs:List (κ × V))(k:κ):Option V:=(kvs.find? λ kv=>decide (kv.1=k)).map (·.2)
def df(kvs:List (κ × V))(k:κ)(v:V):List (κ × V):=
 if (kvs.any λ kv=>decide (kv.1=k))=true then kvs.map (λ kv=>if kv.1=k then (kv.1,v) else kv) else kvs++[(k,v)]
theorem bO{p:κ × V}{r:List (κ × V)}{k:κ}(e:p.1=k):dr (p::r) k=some p.2:=by simp [dr,Nu,e]
theorem bP{p:κ × V}{r:List (κ × V)}{k:κ}(e:¬ p.1=k):dr (p::r) k=dr r k:=by simp [dr,Nu,e]
theorem eF(k:κ):∀ kvs:List (κ × V),(kvs.any λ kv=>decide (kv.1=k))=(dr kvs k).isSome
 | []=>rfl
 | p::r=>by
  rw [List.any_cons]
  by_cases e:p.1=k
  ·simp only [bO e,Ll e,Bool.true_or,Option.isSome_some]
  ·rw [bP e,Lj e,Bool.false_or];exact eF k r
theorem pF(k j:κ)(y:V):∀ kvs:List (κ × V),dr (kvs.map λ kv=>if kv.1=k then (kv.1,y) else kv) j=(dr kvs j).map λ x=>if j=k then y else x
 | []=>rfl
 | p::r=>by
  have ih:=pF k j y r;rw [LG]
  by_cases h:p.1=k
  ·rw [K7 h]
   by_cases e:p.1=j
   ·rw [bO (p:=(p.1,y)) e,bO e,MO,K7 (e.symm.trans h)]
   ·rw [bP (p:=(p.1,y)) e,bP e,ih]
  ·rw [K5 h]
   by_cases e:p.1=j
   ·rw [bO (p:=p) e,bO e,MO,K5 (λ z=>h (e.trans z))]
   ·rw [bP (p:=p) e,bP e,ih]
theorem lT(k j:κ)(y:V):∀ kvs:List (κ × V),dr kvs k=none->dr (kvs++[(k,y)]) j=if j=k then some y else dr kvs j
 | [],_=>by
  by_cases e:k=j
  ·rw [K7 e.symm];exact bO (p:=(k,y)) e
  ·rw [K5 (λ z=>e z.symm)];exact bP (p:=(k,y)) e
 | p::r,hn=>by
  rw [List.cons_append];have hk:¬ p.1=k:=λ z=>by rw [bO z] at hn;cases hn
  rw [bP hk] at hn;have ih:=lT k j y r hn
  by_cases e:p.1=j
  ·rw [bO e,bO e,K5 (λ z=>hk (e.trans z))]
  ·rw [bP e,bP e,ih]
theorem kg(kvs:List (κ × V))(k j:κ)(y:V):dr (df kvs k y) j=if j=k then some y else dr kvs j:=by
 unfold df
 by_cases a:(kvs.any λ kv=>decide (kv.1=k))=true
 ·rw [K7 a,pF];rw [eF] at a
  by_cases e:j=k
  ·obtain⟨x,hx⟩:=Option.isSome_iff_exists.mp a;rw [K7 e,e,hx,MO,K7 rfl]
  ·rw [K5 e]
   cases dr kvs j with
   | none=>rfl
   | some x=>rw [MO,K5 e]
 ·rw [K5 a];refine lT k j y kvs ?_;rw [eF] at a
  cases q:dr kvs k with
  | none=>rfl
  | some x=>rw [q] at a;exact(a rfl).elim
theorem iJ(kvs:List (κ × V))(k:κ)(v:V):(df kvs k v).length<=kvs.length+1:=by
 unfold df;split
 ·rw [K2];omega
 ·rw [K4,Lr,Na];omega
theorem lG.isSome_eq{o:Option V}{u:Option Value}(r:lG o u):o.isSome=u.isSome:=by
 cases o with
 | none=>cases u with
  | none=>rfl
  | some _=>exact(show False from r).elim
 | some _=>cases u with
  | none=>exact(show False from r).elim
  | some _=>rfl
theorem lG.getD{o:Option V}{u:Option Value}{d:V}{d':Value}(r:lG o u)(rd:bp d d'):bp (o.getD d) (u.getD d'):=by
 cases o with
 | none=>cases u with
  | none=>exact rd
  | some _=>exact(show False from r).elim
 | some _=>cases u with
  | none=>exact(show False from r).elim
  | some _=>exact r
theorem KV.val{kvs:List (κ × V)}{vs:List (κ × Value)}(r:KV kvs vs)(k:κ):lG (dr kvs k) (valueAt vs k):=by
 unfold KV at r
 induction r with
 | nil=>exact True.intro
 | @cons p q ps qs h t ih=>
  obtain⟨h1,h2⟩:=h
  by_cases e:p.1=k
  ·have e':q.1=k:=h1.symm.trans e;have b:valueAt (q::qs) k=some q.2:=by simp [valueAt,Nu,e']
   rw [bO e,b];exact h2
  ·have e':¬ q.1=k:=λ z=>e (h1.trans z);have b:valueAt (q::qs) k=valueAt qs k:=by simp [valueAt,Nu,e']
   rw [bP e,b];exact ih
theorem KV.any{kvs:List (κ × V)}{vs:List (κ × Value)}(r:KV kvs vs)(k:κ):(kvs.any λ kv=>decide (kv.1=k))=vs.any λ kv=>decide (kv.1=k):=by
 unfold KV at r
 induction r with
 | nil=>rfl
 | cons h t ih=>rw [List.any_cons,List.any_cons,ih,h.1]
theorem KV.repl{kvs:List (κ × V)}{vs:List (κ × Value)}(r:KV kvs vs)(k:κ){y:V}{u:Value}(ry:bp y u) :
  KV (kvs.map λ kv=>if kv.1=k then (kv.1,y) else kv) (vs.map λ kv=>if kv.1=k then (kv.1,u) else kv):=by
 unfold KV at r ⊢
 induction r with
 | nil=>exact .nil
 | @cons p q ps qs h t ih=>
  rw [LG,LG];refine .cons ?_ ih;obtain⟨h1,h2⟩:=h
  by_cases e:p.1=k
  ·rw [K7 e,K7 (h1.symm.trans e)];exact⟨h1,ry⟩
  ·rw [K5 e,K5 (λ z=>e (h1.trans z))];exact⟨h1,h2⟩
theorem KV.put{kvs:List (κ × V)}{vs:List (κ × Value)}(r:KV kvs vs)(k:κ){y:V}{u:Value}(ry:bp y u):KV (df kvs k y) (stored vs k u):=by
 unfold df stored;rw [r.any k]
 by_cases e:(vs.any λ kv=>decide (kv.1=k))=true
 ·rw [K7 e,K7 e];exact r.repl k ry
 ·rw [K5 e,K5 e];exact Paired.snoc r ⟨rfl,ry⟩
theorem KV.length{kvs:List (κ × V)}{vs:List (κ × Value)}(r:KV kvs vs):kvs.length=vs.length:=NF r
end
theorem xA{P:Program}{w:World}{k:Key}{u:Value}(r:bp (kV k) u):(ba P w).is k u=true:=by
 cases k with
 | inl i=>obtain⟨t,e⟩:=(show ∃ t,u=Value.int i t from r);subst e;exact oC P w i t
 | inr x=>obtain⟨t,e⟩:=(show ∃ t,u=Value.str x t from r);subst e;exact oz P w x t
theorem mq{P:Program}{w:World}:∀ {ks:List Key}{us:List Value},aT (ks.map kV) us->ItemsAre (ba P w) ks us
 | [],_,r=>by rw [List.map_nil] at r;cases r;exact .nil
 | k::ks,_,r=>by
  rw [LG] at r
  cases r with
  | cons h t=>exact .cons (xA h) (mq t)
abbrev KT(H:Hp):List (List Key × V)->List (List Key × Addr × Value)->Prop:=Paired λ p q=>p.1=q.1/\H q.2.1=some (.tup (p.1.map kV))/\bp p.2 q.2.2
theorem KT.val{H:Hp}{kvs:List (List Key × V)}{xs:List (List Key × Addr × Value)}(r:KT H kvs xs)(k:List Key):lG (dr kvs k) ((atKey xs k).map (·.2)):=by
 induction r with
 | nil=>exact True.intro
 | @cons p q ps qs h t ih=>
  obtain⟨h1,_,h2⟩:=h
  by_cases e:p.1=k
  ·have e':q.1=k:=h1.symm.trans e;have b:atKey (q::qs) k=some q.2:=by simp [atKey,Nu,e']
   rw [bO e,b];exact h2
  ·have e':¬ q.1=k:=λ z=>e (h1.trans z);have b:atKey (q::qs) k=atKey qs k:=by simp [atKey,Nu,e']
   rw [bP e,b];exact ih
theorem KT.repl{H:Hp}{kvs:List (List Key × V)}{xs:List (List Key × Addr × Value)}(r:KT H kvs xs)(k:List Key){y:V}{u:Value}(ry:bp y u) :
  KT H (kvs.map λ kv=>if kv.1=k then (kv.1,y) else kv) (xs.map (putAt k u)):=by
 induction r with
 | nil=>exact .nil
 | @cons p q ps qs h t ih=>
  rw [map_cons,map_cons];refine .cons ?_ ih;obtain⟨h1,h2,h3⟩:=h;unfold putAt
  by_cases e:p.1=k
  ·rw [K7 e,K7 (h1.symm.trans e)];exact⟨h1,h2,ry⟩
  ·rw [K5 e,K5 (λ z=>e (h1.trans z))];exact⟨h1,h2,h3⟩
theorem KT.put{H:Hp}{kvs:List (List Key × V)}{xs:List (List Key × Addr × Value)}(r:KT H kvs xs)(k:List Key){b:Addr}{y:V}{u:Value}(hb:H b=some (.tup (k.map kV)))(ry:bp y u) :
  KT H (df kvs k y) (storedH xs k b u):=by
 have e:(kvs.any λ kv=>decide (kv.1=k))=(atKey xs k).isSome:=by
  rw [eF,(r.val k).isSome_eq,Option.isSome_map]
 unfold df storedH;rw [e]
 by_cases q:(atKey xs k).isSome=true
 ·rw [K7 q,K7 q];exact r.repl k ry
 ·rw [K5 q,K5 q];exact Paired.snoc r ⟨rfl,hb,ry⟩
theorem KT.keeps{H H':Hp}{kvs:List (List Key × V)}{xs:List (List Key × Addr × Value)}(r:KT H kvs xs)(ht:∀ b ys,H b=some (.tup ys)->H' b=some (.tup ys)):KT H' kvs xs:=
 Paired.mapP r λ _ _ z=>⟨z.1,ht _ _ z.2.1,z.2.2⟩
section
variable {P:Program}{w:World}{H:Hp}{h:Heap}{a:Addr}
theorem D9{u:HO}(ok:HOk P w H h)(e:Rd H a u):bV P w H h a u:=e.ok ok
theorem tH{kvs:List (Key × V)}(ok:HOk P w H h)(e:Rd H a (.dK kvs)):kvs.length<=sizeLine/\(a == sysModules)=false/\∃ vs,KV kvs vs/\h.DictOf (ba P w) a vs:=
 show bV P w H h a (.dK kvs) from D9 ok e
theorem Bh{kvs:List (Key × V)}(ok:HOk P w H h)(e:H a=some (.dK kvs)):kvs.length<=sizeLine/\(a == sysModules)=false/\∃ vs,KV kvs vs/\h.DictOf (ba P w) a vs:=tH ok (.inl e)
theorem pe{ks:List Key}(ok:HOk P w H h)(e:H a=some (.tup (ks.map kV))):(tupleKind (ba P w)).is h ks a:=by
 obtain⟨_,its,r,o,h1,h2,n,h3⟩:=(show bV P w H h a (.tup (ks.map kV)) from ok a _ e);exact⟨o,its.toArray,n,h1,h2,h3,by simpa using mq r⟩
theorem tG{kvs:List (List Key × V)}(ok:HOk P w H h)(e:Rd H a (.dT kvs)):kvs.length<=sizeLine/\(a == sysModules)=false /\
  ∃ xs,KT H kvs xs/\h.DictOfH (tupleKind (ba P w)) a xs:=by
 obtain⟨z,y,xs,r,o,es,ep,h1,h2,h3,h4,h5⟩:=(show bV P w H h a (.dT kvs) from D9 ok e);refine⟨z,y,xs,r,o,es,ep,h1,h2,h3,h4,λ x hx=>?_,h5⟩
 have all:∀ {l:List (List Key × V)} {m:List (List Key × Addr × Value)},KT H l m->∀ x∈m,(tupleKind (ba P w)).is h x.1 x.2.1:=by
  intro l m q
  induction q with
  | nil=>intro x hx;exact nomatch hx
  | @cons p q ps qs hq t ih=>
   intro x hx
   rcases Ls.mp hx with e|hx
   ·subst e;exact pe ok (by rw [←hq.1];exact hq.2.1)
   ·exact ih x hx
 exact all r x hx
theorem Ji{kvs:List (List Key × V)}(ok:HOk P w H h)(e:H a=some (.dT kvs)):kvs.length<=sizeLine/\(a == sysModules)=false /\
  ∃ xs,KT H kvs xs/\h.DictOfH (tupleKind (ba P w)) a xs:=tG ok (.inl e)
end
def sR(H:Hp)(a:Addr)(y:V)(r:Option V):Prop:=
 (∃ kvs k,Rd H a (.dK kvs)/\y=kV k/\r=dr kvs k)\/∃ kvs k b,Rd H a (.dT kvs)/\y=.ref b/\H b=some (.tup (k.map kV))/\r=dr kvs k
def DJ(H:Hp)(a:Addr)(y v:V)(H':Hp):Prop:=
 (∃ kvs k,H a=some (.dK kvs)/\y=kV k/\kvs.length < sizeLine/\H'=upd H a (.dK (df kvs k v))) \/
 ∃ kvs k b,H a=some (.dT kvs)/\y=.ref b/\H b=some (.tup (k.map kV))/\kvs.length < sizeLine/\H'=upd H a (.dT (df kvs k v))
theorem sR.k{H:Hp}{a:Addr}{kvs:List (Key × V)}{k:Key}(e:H a=some (.dK kvs)):sR H a (kV k) (dr kvs k):=.inl ⟨kvs,k,.inl e,rfl,rfl⟩
theorem DJ.k{H:Hp}{a:Addr}{kvs:List (Key × V)}{k:Key}{v:V}(e:H a=some (.dK kvs))(hl:kvs.length < sizeLine):DJ H a (kV k) v (upd H a (.dK (df kvs k v))):=.inl ⟨kvs,k,e,rfl,hl,rfl⟩
section
variable {X:Cx}{pins:List (Addr × Obj)}{σ:St}{H:Hp}{s:Shared}{a:Addr}{y v:V}{u r:Value}{o:Option V}{A:Around}{E:Value->Shared->Prop}
theorem Inv.big(I:Inv X pins σ H s):sysModules < s.heap.objs.size:=by
 have h:mainGlobals < s.heap.objs.size:=(I.mod.glob.keeps I.bk).lt;exact M6 (by decide) h
theorem w9{Q:Value->Shared->Prop}(hu:A.units+1 < cLine)(I:Inv X pins σ H s)(g:sR H a y (some v))(ry:bp y u)(h:∀ w' s',Inv X pins σ H s'->bp v w'->Q w' s') :
  wpAny (model X.prog X.w) A (getItem (.ref a) u) Q E s:=by
 rcases g with ⟨kvs,k,e,ey,l⟩|⟨kvs,k,b,e,ey,eb,l⟩
 ·subst ey;obtain⟨z,hd,vs,rel,dd⟩:=tH I.hok e;obtain⟨w',hw,rw'⟩:=lG.some_of (v:=v) (o:=valueAt vs k) (by rw [l];exact rel.val k);exact wpAny_getItem_of (xA ry) dd.mapOf hw (h w' _ (I.tok _) rw')
 ·subst ey;cases (show u=Value.ref b from ry);obtain⟨z,hd,xs,rel,dd⟩:=tG I.hok e;obtain⟨w',hw,rw'⟩:=lG.some_of (v:=v) (o:=(atKey xs k).map (·.2)) (by rw [l];exact rel.val k);obtain⟨p,hp,hp2⟩:=Lm.mp hw;refine wpAny_getItem_heap (N7 hu) (pe I.hok eb) dd hp ?_;rw [hp2];exact h w' _ (I.tok _) rw'
theorem ve{h':Heap}{t':Nat}{ob:HO}(I:Inv X pins σ H s)(mu:Mut (H a))(hs:Heap.SameBut a s.heap h')(he:∃ q,h'.get? a=some q)(new:bV X.prog X.w (upd H a ob) h' a ob) :
  Inv X pins σ (upd H a ob) { s with heap:=h',toks:=t' }:=
 I.write (x:=a) (e:=a) mu (.inl rfl) (λ b q hb z=>(hs.2 b hb).trans z) he new
theorem G0{P:Program}{w:World}{H':Hp}{h':Heap}{kvs:List (Key × V)}{vs:List (Key × Value)}(z:kvs.length<=sizeLine)(hd:(a == sysModules)=false)(rel:KV kvs vs)(dd:h'.DictOf (ba P w) a vs) :
  bV P w H' h' a (.dK kvs):=⟨z,hd,vs,rel,dd⟩
theorem w6{H':Hp}{Q:Unit->Shared->Prop}(hu:A.units+1 < cLine)(I:Inv X pins σ H s)(g:DJ H a y v H')(ry:bp y u)(rv:bp v r)(h:∀ s',Inv X pins σ H' s'->Q () s') :
  wpAny (model X.prog X.w) A (setItem (.ref a) u r) Q E s:=by
 rcases g with ⟨kvs,k,e,ey,l,eH⟩|⟨kvs,k,b,e,ey,eb,l,eH⟩
 ·subst ey eH;obtain⟨z,hd,vs,rel,dd⟩:=Bh I.hok e;have hz:vs.length<=sizeLine:=by rw [←rel.length];exact z
  have hl:(df kvs k v).length<=sizeLine:=by have:=iJ kvs k v;omega
  refine wpAny_setItem_pairs (hsz:=hz) (xA ry) dd λ h' dd' hs=>h _ ?_;have he:∃ q,h'.get? a=some q:=let ⟨q,_,_,hq,_⟩:=dd';⟨q,hq⟩;exact ve I (by rw [e];exact True.intro) hs he (G0 hl hd (rel.put k rv) dd')
 ·subst ey eH;cases (show u=Value.ref b from ry);obtain⟨z,hd,xs,rel,dd⟩:=Ji I.hok e;have hz:xs.length<=sizeLine:=by rw [←NF rel];exact z
  have hl:(df kvs k v).length<=sizeLine:=by have:=iJ kvs k v;omega
  refine wpAny_setItem_heap (hsz:=hz) (N7 hu) (pe I.hok eb) dd λ h' dd' hs=>h _ ?_;obtain⟨q,es,ep,hq,h2,h3,h4,_,h5⟩:=dd';refine ve I (by rw [e];exact True.intro) hs ⟨q,hq⟩ ⟨hl,hd,_,(rel.put k eb rv).keeps λ c ys ec=>?_,q,es,ep,hq,h2,h3,h4,h5⟩;rw [ae (Iu ec e (λ z=>nomatch z))];exact ec
end
section
variable {X:Cx}{pins:List (Addr × Obj)}{σ:St}{H:Hp}{s:Shared}{a:Addr}{kvs:List (Key × V)}{k:Key}{u:Value}{A:Around}{E:Value->Shared->Prop}
end
def Kb(i:Expr):Prop:=∀ ov iv,subscripted i false ov iv=operate [ov,iv] (getItem ov iv)
theorem Bu{prog:Program}{w:World}{A:Around}{E:Value->Shared->Prop}{s:Shared}{env:Env}{value slice:Expr}{pos:Pos}{T id:String}{Q:Value->Shared->Prop}
  (hl:typeLookup (.type T) "__getitem__"=pure (some (.builtin id))) (hs:Kb slice)
  (h:wpAny (model prog w) A (eval value env) (λ o s₁=>wpAny (model prog w) A (eval slice env) (λ i s₂=>s₂.TypeIs o T/\wpAny (model prog w) A (getItem o i) Q E s₂) E s₁) E s) :
  wpAny (model prog w) A (eval (.Subscript value slice pos) env) Q E s:=by
 refine Subscript_ (wpAny_mono h (λ o s₁ h₁=>wpAny_mono h₁ (λ i s₂ h₂=>?_) λ _ _ x=>x) λ _ _ x=>x);obtain⟨hT,h₂⟩:=h₂;unfold subscriptTail;refine wpAny_bind ?_;rw [getitemInPython_of_ne hT.not_modules];refine wpAny_bind (wpAny_specialOf hT hl ?_)
 have fin:wpAny (model prog w) A (subscripted slice false o i) (λ r s₃=>wpAny (model prog w) A (letTemporaryGo value o r >>= λ _=>pure r) Q E s₃) E s₂:=by
  rw [hs o i];exact wpAny_operating (Nw h₂ (λ r s₃ h₃=>KW (wpAny_letTemporaryGo (K8 h₃))) λ _ _ x=>x)
 first
  | exact K8 (KW fin)
  | exact KW (K8 (KW fin))
  | exact KW fin
theorem oM{X:Cx}{pins:List (Addr × Obj)}{σ:St}{H:Hp}{s:Shared}{a:Addr}{y:V}{o:Option V}(I:Inv X pins σ H s)(g:sR H a y o):s.TypeIs (.ref a) "dict":=by
 rcases g with ⟨kvs,k,e,_,_⟩|⟨kvs,k,b,e,_,_,_⟩
 ·obtain⟨_,_,vs,_,dd⟩:=tH I.hok e;exact dd.typeIs
 ·obtain⟨_,_,xs,_,dd⟩:=tG I.hok e;exact dd.typeIs
def D1(td ty:TE):TE:=λ σ H Q=>td σ H λ x H1=>ty σ H1 λ y H2=>∃ a v,x=.ref a/\sR H2 a y (some v)/\Q v H2
def D8(td ty tv:TE):TS:=λ D σ H=>tv σ H λ v H1=>td σ H1 λ x H2=>ty σ H2 λ y H3=>∃ a H4,x=.ref a/\DJ H3 a y v H4/\D.nx σ H4
section
variable {X:Cx}{o i e value:Expr}{pos pos' tpos:Pos}{td ty tv:TE}
theorem nW(hu:X.A.units+1 < cLine)(ho:PE X o td)(hi:PE X i ty)(hs:Kb i):PE X (.Subscript o i pos) (D1 td ty):=by
 intro pins s σ H Q I h;refine Bu PySem.F.slot_dict_getitem.lookup hs (thn (ho pins s σ H _ I h) λ u s1 ⟨x,H1,I1,rx,q1⟩=>thn (hi pins s1 σ H1 _ I1 q1) λ iv s2 ⟨y,H2,I2,ry,a,v,ex,g,q2⟩=>?_);subst ex;obtain rfl:u=Value.ref a:=rx;exact⟨oM I2 g,w9 hu I2 g ry λ w' s3 I3 rw'=>⟨v,H2,I3,rw',q2⟩⟩
theorem BE(hu:X.A.units+1 < cLine)(ho:PE X o td)(hi:PE X i ty)(hv:PE X value tv)(hs:swapsWith value (some (.Subscript o i pos')) pos.line X.env=pure false) :
  PS X (.Assign [.Subscript o i pos'] value pos) (D8 td ty tv):=by
 intro pins s σ H D I h;refine wpAny_Assign_Subscript (thn (hv pins s σ H _ I h) λ r s1 ⟨v,H1,I1,rv,q1⟩=>thn (ho pins s1 σ H1 _ I1 q1) λ u s2 ⟨x,H2,I2,rx,q2⟩=>thn (hi pins s2 σ H2 _ I2 q2) λ iv s3 ⟨y,H3,I3,ry,a,H4,ex,g,q3⟩=>?_) hs;subst ex;obtain rfl:u=Value.ref a:=rx;exact w6 hu I3 g ry rv λ s4 I4=>⟨σ,H4,I4,q3⟩
end
theorem zE{P:Program}{w:World}{H:Hp}(h:Heap)(hb:sysModules < h.objs.size):bV P w H (h.push { cls:=.type "dict",data:=.dict #[] }) h.objs.size (.dK []):=
 ⟨LJ _,MI.mpr (Lw (Lf hb)),[],.nil,Heap.DictOf.new h⟩
def EH:TE:=λ _ H Q=>∀ p,H p=none->Q (.ref p) (upd H p (.dK []))
section
variable {X:Cx}{pos:Pos}
theorem yf:PE X (.Dict [] [] pos) EH:=λ pins s σ H Q I h=>
 wpAny_Dict_empty ⟨.ref s.heap.objs.size,_,I.laid (a:=s.heap.objs.size) (o:=.dK []) (t':=s.toks) (λ _ _ q=>KY _ q) (K3 _) (zE s.heap I.big),rfl,h _ (I.hok.fresh (K3 _))⟩
end
structure M2(X:Cx)(o:Expr)(m:Str)(apos:Pos)(e f:Expr)(cpos:Pos):Prop where
 base:attributeBase o m X.env (eval o X.env)=eval o X.env
 few:((backTo cpos (starEach [e,f] X.env)).all (λ x=>!x.1) && (backToKw cpos (keywordEach [] X.env)).all (λ x=>x.1.isSome)
  && decide (([e,f]:List Expr).length+([]:List Keyword).length+(if ([]:List Keyword).isEmpty then 0 else 1) < 30))=true
 line:(apos.endLine == cpos.line)=true
 trees:backTo cpos (starEach [e,f] X.env)=[(false,eval e X.env),(false,eval f X.env)]
def IsD(H:Hp)(a:Addr):Prop:=(∃ kvs,Rd H a (.dK kvs))\/∃ kvs,Rd H a (.dT kvs)
theorem GY{X:Cx}{pins:List (Addr × Obj)}{σ:St}{H:Hp}{s:Shared}{a:Addr}(I:Inv X pins σ H s)(d:IsD H a) :
  s.TypeIs (.ref a) "dict" /\ (∀ b,Value.ref a=.ref b->∃ ob,s.heap.get? b=some ob/\ob.dict=none)/\(a == sysModules)=false:=by
 rcases d with ⟨kvs,e⟩|⟨kvs,e⟩
 ·obtain⟨_,hd,vs,_,dd⟩:=tH I.hok e;refine⟨dd.typeIs,λ b q=>?_,hd⟩;cases q;obtain⟨ob,_,_,h1,h2,_⟩:=dd;exact⟨ob,h1,h2.2.1⟩
 ·obtain⟨_,hd,xs,_,dd⟩:=tG I.hok e;refine⟨dd.typeIs,λ b q=>?_,hd⟩;cases q;obtain⟨ob,_,_,h1,h2,_⟩:=dd;exact⟨ob,h1,h2.2.1⟩
section
variable {X:Cx}{pins:List (Addr × Obj)}{σ:St}{H:Hp}{s:Shared}{a:Addr}{y d:V}{u r:Value}{o:Option V}{A:Around}{E:Value->Shared->Prop}
theorem G6{Q:Value->Shared->Prop}(hu:A.units+1 < cLine)(I:Inv X pins σ H s)(g:sR H a y o)(ry:bp y u)(rd:bp d r)(h:∀ w' s',Inv X pins σ H s'->bp (o.getD d) w'->Q w' s') :
  wpAny (model X.prog X.w) A (call (.builtin "dict.get") [.ref a,u,r]) Q E s:=by
 rcases g with ⟨kvs,k,e,ey,l⟩|⟨kvs,k,b,e,ey,eb,l⟩
 ·subst ey;obtain⟨z,hd,vs,rel,dd⟩:=tH I.hok e;refine call_meetsIn Nz dd.typeIs PySem.F.entry_dict_get (PySem.F.args_dict_get_3 _ _ _) (meets_dict_get_default (ba X.prog X.w) a (xA ry) hd r) ⟨_,dd.mapOf,h _ _ (I.tok _) ?_⟩;rw [l];exact(rel.val k).getD rd
 ·subst ey;cases (show u=Value.ref b from ry);obtain⟨z,hd,xs,rel,dd⟩:=tG I.hok e;refine call_meetsIn Nz dd.typeIs PySem.F.entry_dict_get (PySem.F.args_dict_get_3 _ _ _) (meetsH_dict_get_default (tupleKind (ba X.prog X.w)) a b hd r) ⟨N7 hu,k,xs,pe I.hok eb,dd,h _ _ (I.tok _) ?_⟩;rw [l];exact(rel.val k).getD rd
end
def Af(td ty tx:TE):TE:=λ σ H Q=>td σ H λ x H1=>∃ a,x=.ref a/\IsD H1 a/\ty σ H1 λ y H2=>tx σ H2 λ z H3=>∃ o,sR H3 a y o/\Q (o.getD z) H3
section
variable {X:Cx}{o e f:Expr}{apos cpos:Pos}{td ty tx:TE}
theorem yg(hu:X.A.units+1 < cLine)(ho:PE X o td)(he:PE X e ty)(hf:PE X f tx)(m:M2 X o "get" apos e f cpos):PE X (.Call (.Attribute o "get" apos) [e,f] [] cpos) (Af td ty tx):=by
 intro pins s σ H Q I h;refine wpAny_Call_method m.base m.few m.line PySem.F.plainAttrs_dict Nz PySem.F.type_dict_get (thn (ho pins s σ H _ I h) λ u s1 ⟨x,H1,I1,rx,a,ex,d,q1⟩=>?_);subst ex;obtain rfl:u=Value.ref a:=rx;obtain⟨t1,t2,_⟩:=GY I1 d;refine⟨t1,t2,?_⟩;rw [m.trees]
 refine NL rfl (Calls.evalArgs_plain (Nq (thn (he pins s1 σ H1 _ I1 q1) λ iv s2 ⟨y,H2,I2,ry,q2⟩=>
  Nq (thn (hf pins s2 σ H2 _ I2 q2) λ fv s3 ⟨z,H3,I3,rz,ov,g,q3⟩=>Calls.spliced_nil ?_))))
 exact G6 hu I3 g ry rz λ w' s4 I4 rw'=>⟨_,H3,I4,rw',q3⟩
end
section
variable {X:Cx}{pins:List (Addr × Obj)}{σ:St}{H:Hp}{s:Shared}{a:Addr}{kvs:List (Key × V)}{A:Around}{E:Value->Shared->Prop}
end
section
variable {X:Cx}{pins:List (Addr × Obj)}{σ:St}{H:Hp}{s:Shared}{a:Addr}{y:V}{u:Value}{A:Around}{E:Value->Shared->Prop}
end
section
variable {κ:Type}[DecidableEq κ]
theorem Hl{kvs:List (κ × V)}{k:κ}(h:dr kvs k=none):¬ k∈kvs.map (·.1):=by
 intro m;obtain⟨p,hp,e⟩:=Lo.mp m;have q:(kvs.any λ kv=>decide (kv.1=k))=true:=List.any_eq_true.mpr ⟨p,hp,Ll e⟩;rw [eF,h] at q;exact absurd q (by simp)
end
section
variable {X:Cx}
def nA(_ j:Int):Prop:=j ≠ 0/\j.natAbs < 2 ^ 256
theorem GO{j:Int}(h:j ≠ 0)(hj:j.natAbs < 2 ^ 256):j.natAbs.log2 < 9000:=by
 have h0:j.natAbs ≠ 0:=by omega
 have h1:=(Nat.log2_lt h0).mpr hj;omega
theorem yl:OpR X (binaryOp .FloorDiv) (rI nA λ i j=>.int (i.fdiv j)):=opI λ _ _ _ _ _ _ _ hc q=>floordiv_int hc.1 q (.inl (PyProof.noPylong_of_log2 (GO hc.1 hc.2)))
theorem zH:bK X (.builtin "isinstance") (λ xs H Q=>∃ x n ty b,xs=[x,.ty n]/\oU X.K H x ty/\W.kitOne X.K ty (.type n)=some b/\Q (.bl b) H):=by
 intro pins s σ H xs us Q I r h;obtain⟨x,n,ty,b,rfl,hty,hk,q⟩:=h;obtain⟨u,w',rfl,rx,rc⟩:=AL r;cases (show w'=Value.type n from rc);exact wQ I rx hty hk (λ tk=>⟨.bl b,H,I.tok _,rfl,q⟩)
theorem wM(K:W.Frag)(A B:String)(r:Bool)
  (h:(if (Value.type A == Value.type B)=true then some true else if W.kitMeta B=true then (fastBuiltinMro A).map (·.contains (.type B)) else none)=some r):W.kitOne K (.type A) (.type B)=some r:=h
mutual
inductive jP (K:PySem.W.Frag) (H:Hp):V->PyData->Prop
 | non:jP K H .non .none
 | bl (b:Bool):jP K H (.bl b) (.bool b)
 | int (i:Int):jP K H (.int i) (.int i)
 | str (x:Str):jP K H (.str x) (.str x)
 | lst {a:Addr} {xs:List V} {ds:List PyData} (h:SqL K H a xs) (r:gU K H xs ds):jP K H (.ref a) (.list ds)
 | tup {a:Addr} {xs:List V} {ds:List PyData} (h:SqT K H a xs) (r:gU K H xs ds):jP K H (.ref a) (.tuple ds)
inductive gU (K:PySem.W.Frag) (H:Hp):List V->List PyData->Prop
 | nil:gU K H [] []
 | cons {x:V} {d:PyData} {xs:List V} {ds:List PyData} (h:jP K H x d) (t:gU K H xs ds):gU K H (x::xs) (d::ds)
end
mutual
theorem jP.reads{pins:List (Addr × Obj)}{σ:St}{H:Hp}{s:Shared}(I:Inv X pins σ H s):∀ {x:V}{d:PyData}{u:Value},jP X.K H x d->bp x u->∃ as,Reads s.heap u d as
 | _,_,_,.non,r=>by cases (show _=Value.none from r);exact⟨_,.none⟩
 | _,_,_,.bl b,r=>by cases (show _=Value.bool b from r);exact⟨_,.bool b⟩
 | _,_,_,.int i,r=>by obtain⟨t,rfl⟩:=r;exact⟨_,.int i t⟩
 | _,_,_,.str x,r=>by obtain⟨t,rfl⟩:=r;exact⟨_,.str x t⟩
 | _,_,_,@jP.lst _ _ a xs ds h q,r=>by
  cases (show _=Value.ref a from r);obtain⟨its,hv,hp,_⟩:=I.list h;obtain⟨o,n,e,c,_,d⟩:=hp;obtain⟨as,z⟩:=gU.reads I q hv;exact⟨_,.list e c d (by simpa using z)⟩
 | _,_,_,@jP.tup _ _ a xs ds h q,r=>by
  cases (show _=Value.ref a from r);obtain⟨its,hv,hp,_⟩:=I.tuple h;obtain⟨o,e,c,n,d⟩:=hp;obtain⟨as,z⟩:=gU.reads I q hv;exact⟨_,.tuple e c d (by simpa using z)⟩
theorem gU.reads{pins:List (Addr × Obj)}{σ:St}{H:Hp}{s:Shared}(I:Inv X pins σ H s):∀ {xs:List V}{ds:List PyData}{us:List Value},gU X.K H xs ds->aT xs us->∃ as,ReadsAll s.heap us ds as
 | _,_,_,.nil,.nil=>⟨_,.nil⟩
 | _,_,_,.cons h t,.cons r q=>by
  obtain⟨as,z⟩:=jP.reads I h r;obtain⟨bs,y⟩:=gU.reads I t q;exact⟨_,.cons z y⟩
end
def Ks(K:W.Frag):R2:=λ x y H Q=>∃ d e,jP K H x d/\jP K H y e/\SeqAt.shaped d=true/\SeqAt.shaped e=true/\Q (.bl (PyData.eqv d e)) H
def Kp(K:W.Frag):R2:=λ x y H Q=>∃ d e,jP K H x d/\jP K H y e/\SeqAt.shaped d=true/\SeqAt.shaped e=true/\Q (.bl (!PyData.eqv d e)) H
theorem E9(hu:X.A.units+64 < cLine):OpR X (compareOp .Eq) (Ks X.K):=by
 intro pins s σ H x y v u Q I rx ry h;obtain⟨d,e,hd,he,sd,se,q⟩:=h;obtain⟨as,z⟩:=hd.reads I rx;obtain⟨bs,z'⟩:=he.reads I ry;exact SeqAt.compareEq_shaped z z' sd se hu ⟨.bl _,H,I,rfl,q⟩
theorem E7(hu:X.A.units+64 < cLine):OpR X (compareOp .NotEq) (Kp X.K):=by
 intro pins s σ H x y v u Q I rx ry h;obtain⟨d,e,hd,he,sd,se,q⟩:=h;obtain⟨as,z⟩:=hd.reads I rx;obtain⟨bs,z'⟩:=he.reads I ry;exact SeqAt.compareNe_shaped z z' sd se hu ⟨.bl _,H,I,rfl,q⟩
end
theorem xU{H:Hp}{p:Addr}{o:HO}(h:H p=none):dS H (upd H p o):=λ b u e=>by
 rw [ae (bI e h)];exact e
theorem AB{α:Type}(xs:List α)(i:Int)(h0:0<=i)(h1:i < xs.length):∃ v,atI xs i=some v/\v∈xs:=by
 have hl:i.toNat < xs.length:=by omega
 refine⟨xs[i.toNat],?_,Mm hl⟩;have e:((i.toNat:Nat):Int)=i:=by omega
 have:=cZ (xs:=xs) (j:=i.toNat) (v:=xs[i.toNat]) (KU hl);rw [e] at this;exact this
theorem qm(ns:List Int)(i:Int)(h0:0<=i)(h1:i < ns.length):∃ z,atI (ns.map V.int) i=some (.int z)/\z∈ns:=by
 obtain⟨v,e,m⟩:=AB (ns.map V.int) i h0 (by simpa using h1);obtain⟨z,hz,rfl⟩:=Lo.mp m;exact⟨z,e,hz⟩
def lF(cells:List (Str × Addr)):List (Str × NameKind)->List (Str × Addr)->List (Str × Addr)
 | [],acc=>acc
 | (n,k)::r,acc=>if (k == .free)=true then lF cells r ((n,(cells.lookup n).getD 0)::acc) else lF cells r acc
theorem fj{env:Env}:∀ (names:List (Str × NameKind)) (acc:List (Str × Addr)),(∀ y∈names,y.2=.free->∃ c,env.cells.lookup y.1=some c) →
  (forIn names acc (λ (x:Str × NameKind) (cs:List (Str × Addr))=>match x with
   | (name,kind)=>if (kind == .free)=true then (do let a ←cellOf env name;pure (ForInStep.yield ((name,a)::cs))) else (do pure PUnit.unit;pure (ForInStep.yield cs))):Sem (List (Str × Addr)))=pure (lF env.cells names acc)
 | [],acc,_=>rfl
 | (n,k)::r,acc,h=>by
  rw [N8];have hr:∀ y∈r,y.2=.free->∃ c,env.cells.lookup y.1=some c:=λ y hy=>h y (KZ _ hy)
  by_cases hk:(k == .free)=true
  ·obtain⟨c,hc⟩:=h (n,k) mem_cons_self (by simpa using hk);have hc':env.cells.lookup n=some c:=hc;simp only [hk,if_true,lF,hc',Option.getD_some];have e:cellOf env n=pure c:=by unfold cellOf;rw [hc']
   rw [e];exact fj r _ hr
  ·simp only [hk,N5,lF];exact fj r acc hr
theorem fH{scope:Scope}{env:Env}(h:∀ y∈scope.names,y.2=.free->∃ c,env.cells.lookup y.1=some c):closureFor scope env=pure (lF env.cells scope.names []):=by
 unfold closureFor;have:=fj (env:=env) scope.names [] h
 first
  | exact(L6 (λ m=>m >>= λ cs=>pure cs) this).trans (pure_bind _ _)
  | (simp only [] at this ⊢;rw [this];rfl)
theorem kO{cells:List (Str × Addr)}{x:Str}{c:Addr}:∀ {names:List (Str × NameKind)}{acc:List (Str × Addr)},(∀ y∈names,y.2=.free->∃ c,cells.lookup y.1=some c)->(lF cells names acc).lookup x=some c->acc.lookup x=some c\/cells.lookup x=some c
 | [],acc,_,h=>.inl h
 | (n,k)::r,acc,hf,h=>by
  have hr:∀ y∈r,y.2=.free->∃ c,cells.lookup y.1=some c:=λ y hy=>hf y (mem_cons_of_mem _ hy);unfold lF at h
  by_cases hk:(k == .free)=true
  ·rw [K7 hk] at h
   rcases kO hr h with q|q
   ·rw [Mz] at q
    cases hx:x == n with
    | true=>
     rw [hx] at q;obtain⟨d,hd⟩:=hf (n,k) K1 (by simpa using hk);have e:x=n:=by simpa using hx
     subst e;have hd':cells.lookup x=some d:=hd;rw [hd'] at q ⊢;exact .inr (by simpa using q)
    | false=>rw [hx] at q;exact .inl q
   ·exact .inr q
  ·rw [K5 hk] at h;exact kO hr h
theorem kP{cells:List (Str × Addr)}{x:Str}:∀ {names:List (Str × NameKind)}{acc:List (Str × Addr)},(∀ y∈names,y.2=.free->∃ c,cells.lookup y.1=some c)->(∃ c,acc.lookup x=some c)->∃ c,(lF cells names acc).lookup x=some c
 | [],acc,_,h=>h
 | (n,k)::r,acc,hf,h=>by
  have hr:∀ y∈r,y.2=.free->∃ c,cells.lookup y.1=some c:=λ y hy=>hf y (mem_cons_of_mem _ hy);unfold lF
  by_cases hk:(k == .free)=true
  ·rw [K7 hk];refine kP hr ?_;rw [Mz]
   cases hx:x == n with
   | true=>exact⟨_,rfl⟩
   | false=>exact h
  ·rw [K5 hk];exact kP hr h
theorem gP{cells:List (Str × Addr)}{x:Str}:∀ {names:List (Str × NameKind)}{acc:List (Str × Addr)},(∀ y∈names,y.2=.free->∃ c,cells.lookup y.1=some c)->names.lookup x=some .free->∃ c,(lF cells names acc).lookup x=some c
 | [],acc,_,h=>by simp at h
 | (n,k)::r,acc,hf,h=>by
  have hr:∀ y∈r,y.2=.free->∃ c,cells.lookup y.1=some c:=λ y hy=>hf y (mem_cons_of_mem _ hy);rw [lookup_cons] at h;unfold lF
  cases hx:x == n with
  | true=>
   rw [hx] at h;have hk:k=.free:=by simpa using h
   subst hk;rw [K7 (show (NameKind.free == NameKind.free)=true from rfl)];refine kP hr ⟨(cells.lookup n).getD 0,?_⟩;rw [Mz,hx]
  | false=>
   rw [hx] at h
   by_cases hk:(k == .free)=true
   ·rw [K7 hk];exact gP hr h
   ·rw [K5 hk];exact gP hr h
theorem eQ{x:Str}{k:NameKind}:∀ {names:List (Str × NameKind)},names.lookup x=some k->(x,k)∈names
 | [],h=>by simp at h
 | (n,j)::r,h=>by
  rw [Mz] at h
  cases hx:x == n with
  | true=>
   rw [hx] at h;have e:x=n:=by simpa using hx
   have e2:j=k:=by simpa using h
   subst e;subst e2;exact K1
  | false=>rw [hx] at h;exact KZ _ (eQ h)
theorem dc{env:Env}{x:Str}:∀ {names:List (Str × NameKind)},
  (names.map λ (n,k)=>if (k == NameKind.free && env.scope.kind == .function && env.kindOf n == some .cell) then (n,NameKind.cell) else (n,k)).lookup x
   = (names.lookup x).map λ k=>if (k == NameKind.free && env.scope.kind == .function && env.kindOf x == some .cell) then NameKind.cell else k
 | []=>rfl
 | (n,k)::r=>by
  have ih:=@dc env x r
  show List.lookup x ((if (k == NameKind.free && env.scope.kind == .function && env.kindOf n == some .cell)=true then (n,NameKind.cell) else (n,k))::_)=_
  cases hx:x == n with
  | true=>
   have e:x=n:=by simpa using hx
   subst e
   by_cases hc:(k == NameKind.free && env.scope.kind == .function && env.kindOf x == some .cell)=true
   ·rw [K7 hc];simp only [Mz,NZ,MO];rw [K7 hc]
   ·rw [K5 hc];simp only [Mz,NZ,MO];rw [K5 hc]
  | false=>
   by_cases hc:(k == NameKind.free && env.scope.kind == .function && env.kindOf n == some .cell)=true
   ·rw [K7 hc];simp only [Mz,hx];exact ih
   ·rw [K5 hc];simp only [Mz,hx];exact ih
abbrev cCx(X:Cx)(scope:Scope)(N':List Str)(C:Addr)(s₀:Shared)(H₀:Hp)(ex:List Addr)(pn:List (Addr × Obj)):Cx:=
 { X with N:=N',s₀:=s₀,H₀:=H₀,env:=compEnvC scope (lF X.env.cells scope.names []) C X.env,outer:=X.stack,stack:=X.stack,ex:=ex,fn:=λ _=>false,pn:=pn,xe:=λ _ _=>False }
def PTs(Y:Cx)(ifs:List Expr)(t:TT):Prop:=
 ∀ (pins:List (Addr × Obj)) (s:Shared) (σ:St) (H:Hp) (Q:Bool->Hp->Prop),Inv Y pins σ H s->t σ H Q →
  wpAny (model Y.prog Y.w) Y.A (forIn ifs true λ c r=>if r=true then do let ok ←isTrue c Y.env (eval c Y.env);pure (ForInStep.yield ok) else pure (ForInStep.yield r)) (TP Y pins σ Q) Y.xe s
def Jp:TT:=λ _ H Q=>Q true H
theorem aY{Y:Cx}:PTs Y [] Jp:=λ _ _ _ H _ I h=>K8 ⟨H,I,h⟩
theorem nS{Y:Cx}{c:Expr}{t:TT}(h:PT Y c t):PTs Y [c] t:=λ pins s σ H Q I hw=>PySem.wpAny_tests_one (h pins s σ H Q I hw)
theorem HOk.but{P:Program}{w:World}{H:Hp}{h h':Heap}{C:Addr}(ok:HOk P w H h)(hn:H C=none)(hs:Heap.SameBut C h h'):HOk P w H h':=λ b ob e=>by
 refine(ok b ob e).stay (λ c w' hc q=>(hs.2 c ?_).trans q) (λ _ q=>q) λ _ _ q=>q;rintro rfl
 rcases hc with rfl|hc
 ·rw [hn] at e;cases e
 ·rw [hn] at hc;cases hc
theorem Un.but{fs ex:List Addr}{H H':Hp}{h h1 h2:Heap}{C:Addr}(u:Un fs ex H H' h h1)(hs:Heap.SameBut C h1 h2)(hC:∀ b o,h.get? b=some o->b ≠ C):Un fs ex H H' h h2 where
 keep:=λ b o e n hb hx=>(hs.2 b (hC b o e)).trans (u.keep b o e n hb hx)
 slot:=λ b o e n hb hx=>by
  obtain⟨sl,q⟩:=u.slot b o e n hb hx;exact⟨sl,(hs.2 b (hC b o e)).trans q⟩
 free:=u.free
 there:=λ b o e hx=>by
  obtain⟨o',q⟩:=u.there b o e hx;exact⟨o',(hs.2 b (hC b o e)).trans q⟩
 tups:=u.tups
 frzs:=u.frzs
 tbls:=u.tbls
section
variable {X:Cx}
def AM(k:Nat)(wi:TI)(g:TG)(tt:TT)(te:TE):TE:=λ σ H Q=>wi σ H λ J H1=>∀ D,H1 D=none->∃ W:Nat->Nat->List V->Hp->Prop,(∃ m,W 0 m [] (upd H1 D (.lst [])))/\∀ i m ys H,W i m ys H →
 (J.stop i H/\Q (.ref D) H)\/(J.go i H/\∃ N:List V->Hp->Prop,(∀ ys' H',N ys' H'->∃ m',m' < m/\W (i+1) m' ys' H') /\
  ∀ x H',J.yld i H x H'->g x (List.replicate k none++σ) H' λ σ2 H2=>(∃ vs:St,vs.length=k/\σ2=vs++σ)/\tt σ2 H2 λ b H3=>if b=true then te σ2 H3 λ y H4=>H4 D=some (.lst ys)/\ys.length < sizeLine/\N (ys++[y]) (upd H4 D (.lst (ys++[y]))) else N ys H3)
theorem xa{Y:Cx}{tg elt iter:Expr}{ifs:List Expr}{scope:Scope}{pos:Pos}{it D:Addr}{g:TG}{tt:TT}{te:TE}{J:It}{fp:List Addr}{tn:Nat->Heap->Prop}{k:Nat}{σ:St}{Q:VK}
  (hc:Y.calm=true) (hx:Y.xe=λ _ _=>False) (hg:PG Y tg g) (ht:PTs Y ifs tt) (he:PE Y elt te) (T:zZ Y.prog Y.w Y.K tg J fp it tn) (hf:∀ H:Hp,(∀ b∈fp,H b=none)->∀ b∈fp,ny Y [] H b)
  (W:Nat->Nat->List V->Hp->Prop)
  (turn:∀ i m ys H,W i m ys H->(J.stop i H/\Q (.ref D) H)\/(J.go i H/\∃ N:List V->Hp->Prop,(∀ ys' H',N ys' H'->∃ m',m' < m/\W (i+1) m' ys' H') /\
   ∀ x H',J.yld i H x H'->g x (List.replicate k none++σ) H' λ σ2 H2=>(∃ vs:St,vs.length=k/\σ2=vs++σ)/\tt σ2 H2 λ b H3=>if b=true then te σ2 H3 λ y H4=>H4 D=some (.lst ys)/\ys.length < sizeLine/\N (ys++[y]) (upd H4 D (.lst (ys++[y]))) else N ys H3))
  (n:Nat) (s:Shared) (h:∃ i ys H,Inv Y [] (List.replicate k none++σ) H s/\tn i s.heap/\(∀ b∈fp,H b=none)/\W i n ys H) :
  codeAny (model Y.prog Y.w) Y.A (.compLoop (.ListComp elt [⟨tg,iter,ifs,0⟩] scope pos) 0 (.ref it) (.ref D) Y.env) (λ r s'=>r=.ok .next/\∃ H',Inv Y [] (List.replicate k none++σ) H' s'/\Q (.ref D) H') s:=by
 refine codeAny_loop rfl (λ n s=>∃ i ys H,Inv Y [] (List.replicate k none++σ) H s/\tn i s.heap/\(∀ b∈fp,H b=none)/\W i n ys H) ?_ n h;rintro n s3 ⟨i,ys,H3,I3,st3,fr3,w3⟩
 show wpAny _ Y.A ((compTurn (.ListComp elt [⟨tg,iter,ifs,0⟩] scope pos) 0 (.ref it) (.ref D) Y.env).onRaise (λ x=>do noteFrame x Y.env;theTreesLotGoes x)) _ _ s3
 refine PySem.wpAny_noted ?_;rw [PySem.compTurn_list]
 have no:∀ {α:Type} {m:Sem α} {P:α->Shared->Prop} {E:Value->Shared->Prop} {s:Shared},wpAny (model Y.prog Y.w) Y.A m P Y.xe s->wpAny (model Y.prog Y.w) Y.A m P E s:=λ {α m P E s} h=>
  Nw h (λ _ _ q=>q) λ _ _ q=>by rw [hx] at q;exact q.elim
 refine KW (ND (KW ?_))
 rcases turn i n ys H3 w3 with ⟨stop,qn⟩|⟨go,N,hN,step⟩
 ·refine thn (T.done Y rfl rfl rfl hc i [] s3 (List.replicate k none++σ) H3 _ I3 (hf H3 fr3) st3 stop) λ r s4 ⟨hr,I4⟩=>?_;subst hr;exact K8 ⟨rfl,H3,I4,qn⟩
 ·refine thn (T.item Y rfl rfl rfl hc i [] s3 (List.replicate k none++σ) H3 _ I3 (hf H3 fr3) st3 go) λ r s4 ⟨u,hr,h4⟩=>?_;subst hr;refine KW (thn h4 λ _ s5 ⟨x,H5,I5,r5,y5,st5,fr5⟩=>?_);have I5':=I5.pinned (hf H5 fr5) (T.obj _ _ st5);refine KW (no (thn (hg _ s5 (List.replicate k none++σ) H5 x u _ I5' r5 (step x H5 y5)) λ _ s6 ⟨σ6,H6,I6,⟨vs,hvs,e6⟩,q6⟩=>?_));subst e6
  have forget:∀ {pins:List (Addr × Obj)} {H:Hp} {s:Shared},Inv Y pins (vs++σ) H s->Inv Y pins (List.replicate k none++σ) H s:=λ {pins H s} I=>I.weak (by simp [hvs]) λ i v e=>by
   by_cases hi:i < k
   ·rw [LQ (by simpa using hi)] at e;simp [Nj,hi] at e
   ·rw [Lk (by simpa using N2 hi)] at e;rw [Lk (by omega)]
    simpa [hvs] using e
  refine KW (no (thn (ht _ s6 (vs++σ) H6 _ I6 q6) λ b s7 ⟨H7,I7,q7⟩=>?_))
  have again:∀ {H8:Hp} {s8:Shared} {ys':List V},Inv Y ([]++lM fp s5.heap) (vs++σ) H8 s8->N ys' H8->∃ m,m < n/\∃ i ys H,Inv Y [] (List.replicate k none++σ) H s8/\tn i s8.heap/\(∀ b∈fp,H b=none)/\W i m ys H:=λ {H8 s8 ys'} I8 n8=>by
   obtain⟨m',hm,w8⟩:=hN ys' H8 n8;refine⟨m',hm,i+1,ys',H8,forget I8.unpinned,T.keep _ _ _ st5 λ b hb o e=>(I8.pin (b,o) (Lx _ (Lx _ (eO hb e)))).1,λ b hb=>?_,w8⟩;obtain⟨o,e,d⟩:=T.obj _ _ st5 b hb;exact(I8.pin (b,o) (Lx _ (Lx _ (eO hb e)))).2.1
  cases b with
  | false=>
   rw [K5 Lg] at q7;exact K8 ⟨rfl,again I7 q7⟩
  | true=>
   rw [K7 rfl] at q7;refine KW (KW (no (thn (he _ s7 (vs++σ) H7 _ I7 q7) λ y s8 ⟨y',H8,I8,ry,q8,l8,n8⟩=>?_)));exact KW (no (thn (cu _ s8 (vs++σ) H8 (.ref D) [y'] (.ref D) [y] (λ _ H'=>N (ys++[y']) H') I8 rfl (.cons ry .nil) ⟨D,ys,y',rfl,rfl,q8,l8,n8⟩) λ _ s9 ⟨_,H9,I9,_,q9⟩=>K8 (K8 ⟨rfl,again I9 q9⟩)))
structure g7(X:Cx)(scope:Scope)(N':List Str)(k:Nat):Prop where
 cell:∀ y∈scope.names,y.2 ≠ .cell
 kind:scope.kind=.function
 names:∀ y∈scope.names,y.2=.local->scope.names.lookup y.1=some .local
 free:∀ y∈scope.names,y.2=.free->X.env.scope.names.lookup y.1=some .cell
 len:N'.length=k+X.N.length
 sub:∀ i x,N'[k+i]? = some x->scope.names.lookup x=some .free->X.N[i]? = some x
 loc:∀ i x,N'[k+i]? = some x->scope.names.lookup x ≠ some .local
theorem g7.cells{scope:Scope}{N':List Str}{k:Nat}{pins:List (Addr × Obj)}{σ:St}{H:Hp}{s:Shared}(c:g7 X scope N' k)(I:Inv X pins σ H s):∀ y∈scope.names,y.2=.free->∃ a,X.env.cells.lookup y.1=some a:=λ y hy e=>
 I.ok.has y.1 (.inl (c.free y hy e))
theorem za{scope:Scope}{N':List Str}{k:Nat}{pins:List (Addr × Obj)}{σ:St}{H:Hp}{s s₄:Shared}{fp:List Addr}{m:Str->Option Value}(c:g7 X scope N' k)(hc:X.calm=true)(I:Inv X pins σ H s)
  (hf:∀ b∈fp,ny X pins H b) (hfl:∀ b∈fp,b < s.heap.objs.size) (hb:∀ b∈fp,X.base.get? b=none) (hns:s₄.heap.Ns s.heap.objs.size m) (hk:∀ b o,s.heap.get? b=some o->s₄.heap.get? b=some o) (ho:s₄.os=s.os) (hg:s₄.gens=s.gens) :
  Inv (cCx X scope N' s.heap.objs.size s H fp (X.pn++pins)) [] (List.replicate k none++σ) H s₄:=by
 have hcl:=c.cells I
 have sub:∀ x a,(lF X.env.cells scope.names []).lookup x=some a->X.env.cells.lookup x=some a:=λ x a e=>by
  rcases kO hcl e with q|q
  ·simp at q
  ·exact q
 have kinds:∀ x,(compEnvC scope (lF X.env.cells scope.names []) s.heap.objs.size X.env).kindOf x=some .cell\/(compEnvC scope (lF X.env.cells scope.names []) s.heap.objs.size X.env).kindOf x=some .free->scope.names.lookup x=some .free:=λ x hx=>by
  have e:(compEnvC scope (lF X.env.cells scope.names []) s.heap.objs.size X.env).kindOf x=(scope.names.lookup x).map λ k=>if (k == NameKind.free && X.env.scope.kind == .function && X.env.kindOf x == some .cell) then NameKind.cell else k:=dc
  rw [e] at hx
  cases q:scope.names.lookup x with
  | none=>rw [q] at hx;simp at hx
  | some j=>
   rw [q] at hx;have hj:j ≠ .cell:=c.cell (x,j) (eQ q)
   cases j<;>simp_all
 have fresh:∀ b,s.heap.objs.size<=b->s.heap.get? b=none:=λ b hb=>Heap.get?_none_of_le hb;have ne:∀ b o,s.heap.get? b=some o->b ≠ s.heap.objs.size:=λ b o e=>Lf (K6 e)
 have cl_lt:∀ x a,X.env.cells.lookup x=some a->a < s.heap.objs.size:=λ x a e=>by
  obtain⟨v,o,h1,_⟩:=I.cell x a e;exact K6 h1
 refine⟨⟨I.ok.mod,c.kind,I.ok.glob,I.ok.blt,K3 _,λ x y a e1 e2=>I.ok.inj x y a (sub x a e1) (sub y a e2),λ x hx=>gP hcl (kinds x hx),(λ _ _ z=>nomatch z),I.ok.hd,I.ok.frames,.inl rfl,λ b hb'=>⟨Lf (hfl b hb'),λ x a e=>(hf b hb').2.2.2.2.1 x a (sub x a e)⟩,
   I.bs,LU I.ok.bsz I.sz,(λ b o e hb'=>by rw [hb b hb'] at e;cases e),λ b hb' hz=>?_,I.stack,I.stkFree⟩,ho,by rw [hg];exact I.bare,Un.kept hk,⟨m,hns,λ i x v e1 e2 e3=>?_⟩,λ x a e=>?_,I.hok.fresh (K3 _),λ x a e=>I.freeC x a (sub x a e),λ p hp=>?_,I.hok.kept hk,?_⟩
 ·rcases Ls.mp (I.stkSub b hz) with z|z
  ·exact(hf b hb').2.1 z
  ·exact(hf b hb').2.2.1 z
 ·have hi:k<=i:=by
   refine N2 λ hi=>?_;rw [LQ (by simpa using hi)] at e2;simp [Nj,hi] at e2
  obtain⟨j,rfl⟩:∃ j,i=k+j:=⟨i - k,by omega⟩;rw [Lk (by simp)] at e2;have e2':σ[j]? = some (some v):=by simpa using e2
  have e:(relabel scope X.env).names.lookup x=(scope.names.lookup x).map λ k=>if (k == NameKind.free && X.env.scope.kind == .function && X.env.kindOf x == some .cell) then NameKind.cell else k:=dc
  have hfree:scope.names.lookup x=some .free:=by
   cases q:scope.names.lookup x with
   | none=>
    rcases e3 with z|z|z
    all_goals (have z':(relabel scope X.env).names.lookup x=some _:=z;rw [e,q] at z';simp at z')
   | some j'=>
    have h1:j' ≠ .cell:=c.cell (x,j') (eQ q);have h2:j' ≠ .local:=λ z=>c.loc j x e1 (by rw [q,z])
    rcases e3 with z|z|z
    all_goals (have z':(relabel scope X.env).names.lookup x=some _:=z;rw [e,q] at z';cases j'<;>simp_all)
  have hX:=c.sub j x e1 hfree;have hcellX:=c.free (x,.free) (eQ hfree) rfl;obtain⟨m0,hn0,hl0⟩:=I.loc;obtain⟨u,r,l⟩:=hl0 j x v hX e2' (.inr (.inl hcellX));refine⟨u,r,?_⟩
  rcases l with ⟨z,_⟩|⟨_,a,ea,hz⟩
  ·have z':X.env.scope.names.lookup x=some .local:=z;rw [hcellX] at z';cases z'
  ·obtain⟨a',ea'⟩:=gP (acc:=[]) hcl hfree;have e4:=sub x a' ea';rw [ea] at e4;cases e4;refine .inr ⟨.inl ?_,a,ea',?_⟩
   ·show (relabel scope X.env).names.lookup x=some .cell
    rw [e,hfree];have k1:(X.env.scope.kind == .function)=true:=by rw [I.ok.kind];rfl
    have k2:(X.env.kindOf x == some .cell)=true:=by
     have:X.env.kindOf x=some .cell:=hcellX;rw [this];rfl
    simp [k1,k2]
   ·obtain⟨o,h1,h2⟩:=hz;exact⟨o,hk _ _ h1,h2⟩
 ·obtain⟨v,o,h1,h2⟩:=I.cell x a (sub x a e);exact⟨v,o,hk _ _ h1,h2⟩
 ·have hp':p∈X.pn++pins:=by simpa using hp
  obtain⟨e,n,nl,nf,d⟩:=I.pin p hp';refine⟨hk _ _ e,n,ne _ _ e,λ z=>?_,d⟩
  rcases Ls.mp (I.stkSub _ z) with z|z
  ·exact nl z
  ·exact nf z
 ·show (List.replicate k none++σ).length=N'.length
  rw [c.len,K4,List.length_replicate,I.len]
theorem jw{elt iter tg:Expr}{ifs:List Expr}{scope:Scope}{pos:Pos}{g:TG}{tt:TT}{te:TE}{N':List Str}{k:Nat}{it:Addr}{J:It}{fp:List Addr}{tn:Nat->Heap->Prop}{pins:List (Addr × Obj)}{σ:St}{H:Hp}{s:Shared}{Q:VK}{RR:Value->Addr->Result->Shared->Prop}{E:Value->Shared->Prop}
  (c:g7 X scope N' k) (hc:X.calm=true) (I:Inv X pins σ H s) (T:zZ X.prog X.w X.K tg J fp it tn) (st:tn 0 s.heap) (hf:∀ b∈fp,ny X pins H b)
  (hg:∀ C s₀ H₀ ex pn,PG (cCx X scope N' C s₀ H₀ ex pn) tg g) (ht:∀ C s₀ H₀ ex pn,PTs (cCx X scope N' C s₀ H₀ ex pn) ifs tt) (he:∀ C s₀ H₀ ex pn,PE (cCx X scope N' C s₀ H₀ ex pn) elt te)
  (h:∀ D,H D=none->∃ W:Nat->Nat->List V->Hp->Prop,(∃ m,W 0 m [] (upd H D (.lst [])))/\∀ i m ys H,W i m ys H →
   (J.stop i H/\Q (.ref D) H)\/(J.go i H/\∃ N:List V->Hp->Prop,(∀ ys' H',N ys' H'->∃ m',m' < m/\W (i+1) m' ys' H') /\
    ∀ x H',J.yld i H x H'->g x (List.replicate k none++σ) H' λ σ2 H2=>(∃ vs:St,vs.length=k/\σ2=vs++σ)/\tt σ2 H2 λ b H3=>if b=true then te σ2 H3 λ y H4=>H4 D=some (.lst ys)/\ys.length < sizeLine/\N (ys++[y]) (upd H4 D (.lst (ys++[y]))) else N ys H3))
  (fin:∀ D C s' H' m,s'.heap.Ns C m->C ≠ X.env.locals->(∀ x a,X.env.cells.lookup x=some a->a ≠ C)->(H' C=none/\X.s₀.heap.objs.size<=C/\∀ p∈X.pn++pins,p.1 ≠ C)->(∀ h',Heap.SameBut C s'.heap h'->Inv X pins σ H' { s' with heap:=h' })->Q (.ref D) H'->RR (.ref D) C (.ok .next) s') :
  wpAny (model X.prog X.w) X.A (newList []) (λ acc s₃=>wpAny (model X.prog X.w) X.A (newFunctionEnv scope X.env.globals (lF X.env.cells scope.names []) [] X.env.qual none .none (some X.env)) (λ cenv s₄=>
   codeAny (model X.prog X.w) X.A (.compStart (.ListComp elt [⟨tg,iter,ifs,0⟩] scope pos) 0 (.ref it) acc { cenv with scope:=relabel scope X.env }) (RR acc cenv.locals) s₄) E s₃) E s:=by
 refine wpAny_newObj_type (wpAny_newFunctionEnv c.cell (by intro y hy;simp at hy) (λ h₁ hns₁ hsb₁=>?_) c.kind);dsimp only at hns₁ hsb₁ ⊢;have I3:Inv X pins σ (upd H s.heap.objs.size (.lst [])) { s with heap:=s.heap.push { cls:=.type "list",data:=.seq ([]:List Value).toArray },toks:=s.toks }:=I.lnew (ys:=[]) (its:=[]) .nil (Nat.zero_le _);generalize hH2:s.heap.push { cls:=.type "list",dict:=none,data:=.seq ([]:List Value).toArray }=hp at hns₁ hsb₁ I3 ⊢;have hlt:∀ b o,s.heap.get? b=some o->hp.get? b=some o:=λ b o e=>by rw [←hH2];exact Heap.get?_push_of_some _ e
 have hnD:H s.heap.objs.size=none:=I.hok.fresh (K3 _);have kp:∀ b o,hp.get? b=some o->h₁.get? b=some o:=λ b o e=>hsb₁.extBut b o (Lf (K6 e)) (KY _ e)
 have stk:∀ b∈fp,s.heap.get? b ≠ none:=λ b hb z=>by
  obtain⟨o,e,_⟩:=T.obj _ _ st b hb;rw [z] at e;cases e
 have flt:∀ b∈fp,b < s.heap.objs.size:=λ b hb=>by
  obtain⟨o,e,_⟩:=T.obj _ _ st b hb;exact K6 e
 have fpD:∀ b∈fp,b ≠ s.heap.objs.size:=λ b hb=>Lf (flt b hb)
 have hf3:∀ b∈fp,ny X pins (upd H s.heap.objs.size (.lst [])) b:=λ b hb=>by
  obtain⟨a1,a2⟩:=hf b hb;exact⟨by rw [ae (fpD b hb)];exact a1,a2⟩
 have hnb:∀ b∈fp,X.base.get? b=none:=λ b hb=>by
  cases e:X.base.get? b with
  | none=>rfl
  | some o=>
   rcases (hf b hb).2.2.2.1 with z|z
   ·exact absurd z (I.ok.noex b o e)
   ·have:=K6 (I.ok.bs b o e).1;exact absurd (Le this z) (Mt _)
 have hsz:s.heap.objs.size < hp.objs.size:=by rw [←hH2,L4];exact MH _
 have IY:=za (s₄:={ s with heap:=h₁,toks:=s.toks+([]:List (Str × Value)).length }) (fp:=fp) c hc I3 hf3 (λ b hb=>M6 (flt b hb) hsz) hnb hns₁ kp rfl rfl;obtain⟨W,⟨m0,w0⟩,turn⟩:=h s.heap.objs.size hnD
 have run:=xa (Y:=cCx X scope N' hp.objs.size { s with heap:=hp,toks:=s.toks } (upd H s.heap.objs.size (.lst [])) fp (X.pn++pins)) (tg:=tg) (elt:=elt) (iter:=iter) (ifs:=ifs) (scope:=scope) (pos:=pos) (it:=it) (D:=s.heap.objs.size) (k:=k) (σ:=σ) (Q:=Q)
  hc rfl (hg _ _ _ _ _) (ht _ _ _ _ _) (he _ _ _ _ _) T (λ H' hn b hb=>⟨hn b hb,Lf (M6 (flt b hb) hsz),λ z=>(IY.ok.exfs b hb) z,.inl hb,λ x a e=>(IY.ok.exf b hb).2 x a e,λ p hp=>by
   have hp':p∈X.pn++pins:=by simpa using hp
   exact(hf b hb).2.2.2.2.2 p hp'⟩) W turn m0
 have st₁:tn 0 h₁:=T.keep _ _ _ st λ b hb o e=>kp b o (hlt b o e);have go:=run { s with heap:=h₁,toks:=s.toks+([]:List (Str × Value)).length } ⟨0,[],_,IY,st₁,λ b hb=>(hf3 b hb).1,w0⟩
 have out:∀ r s',(r=Except.ok Flow.next/\∃ H',Inv (cCx X scope N' hp.objs.size { s with heap:=hp,toks:=s.toks } (upd H s.heap.objs.size (.lst [])) fp (X.pn++pins)) [] (List.replicate k none++σ) H' s'/\Q (.ref s.heap.objs.size) H')->RR (.ref s.heap.objs.size) hp.objs.size r s':=by
  rintro r s' ⟨rfl,H',J',q⟩;obtain⟨m,hn,_⟩:=J'.loc;have hC:hp.objs.size ≠ X.env.locals:=ML (Le I.lt (M7 hsz));refine fin _ _ s' H' m hn hC (λ x a e=>?_) ⟨J'.free,LU I.sz (M7 hsz),λ p hp'=>Lf (M6 (K6 (I.pin p hp').1) hsz)⟩ (λ h' hs'=>?_) q
  ·obtain⟨v,o,h1,_⟩:=I.cell x a e;exact Lf (M6 (K6 h1) hsz)
  ·refine I.call' (ch:=fp) ?_ ?_ ?_ J'.bare λ b hb=>⟨(hf b hb).2.2.2.1,(hf b hb).2.1,(hf b hb).2.2.2.2.1,(hf b hb).2.2.2.2.2⟩
   ·exact J'.os
   ·have u1:Un (frs X.stack) fp H (upd H s.heap.objs.size (.lst [])) s.heap hp:=Un.laid hlt (K3 _) hnD;exact(u1.trans J'.base).but hs' λ b o e=>Lf (M6 (K6 e) hsz)
   ·exact J'.hok.but J'.free hs'
 exact codeAny_compStart_list (Nm go out) (T.self _ 0 _ _ _ st₁ (Nm go out))
theorem BM{elt iter tg:Expr}{ifs:List Expr}{scope:Scope}{pos:Pos}{wi:TI}{g:TG}{tt:TT}{te:TE}{N':List Str}{k:Nat}
  (c:g7 X scope N' k) (hc:X.calm=true) (hi:PI X tg iter wi)
  (hg:∀ C s₀ H₀ ex pn,PG (cCx X scope N' C s₀ H₀ ex pn) tg g) (ht:∀ C s₀ H₀ ex pn,PTs (cCx X scope N' C s₀ H₀ ex pn) ifs tt) (he:∀ C s₀ H₀ ex pn,PE (cCx X scope N' C s₀ H₀ ex pn) elt te)
  (hs:∀ x,foldedSetIterable iter X.env x=pure x:=by intro _;rfl):PE X (.ListComp elt [⟨tg,iter,ifs,0⟩] scope pos) (AM k wi g tt te):=by
 intro pins s σ H Q I h;rw [PySem.eval_ListComp];refine NX (use:=none) rfl hs (fH (c.cells I)) c.kind c.names (thn (hi pins s σ H _ I h) λ v s1 h1=>thn h1 λ itv s2 h2=>?_);obtain⟨it,fp,tn,J,H2,rfl,I2,T,st2,f2,hW⟩:=h2;refine jw (RR:=λ acc C=>PySem.compPost (model X.prog X.w) X.A X.xe none (EP X pins σ Q) acc C) c hc I2 T st2 f2 hg ht he hW ?_;intro D C s' H' m hn _ _ _ hI q;exact⟨m,hn,λ h' hs'=>⟨.ref D,H',hI h' hs',rfl,q⟩⟩
def DW(i:Nat)(te:TE):TS:=λ D σ H=>te σ H λ x H1=>D.nx (σ.set i (some x)) H1
theorem uH{elt iter tg:Expr}{ifs:List Expr}{scope:Scope}{pos spos py:Pos}{wi:TI}{g:TG}{tt:TT}{te:TE}{N':List Str}{k i:Nat}{y:Str}
  (hN:X.N.Nodup) (hi':X.N[i]? = some y) (hy:Loc X.env.scope y)
  (c:g7 X scope N' k) (hc:X.calm=true) (hi:PI X tg iter wi)
  (hg:∀ C s₀ H₀ ex pn,PG (cCx X scope N' C s₀ H₀ ex pn) tg g) (ht:∀ C s₀ H₀ ex pn,PTs (cCx X scope N' C s₀ H₀ ex pn) ifs tt) (he:∀ C s₀ H₀ ex pn,PE (cCx X scope N' C s₀ H₀ ex pn) elt te)
  (hsw:swapsWith (.ListComp elt [⟨tg,iter,ifs,0⟩] scope pos) (some (.Name y py)) spos.line X.env=pure true:=by rfl)
  (hs:∀ x,foldedSetIterable iter X.env x=pure x:=by intro _;rfl) (hf:X.fn y=true\/X.env.scope.names.lookup y=some .local:=by first|exact .inl rfl|exact .inr rfl|assumption) :
  PS X (.Assign [.Name y py] (.ListComp elt [⟨tg,iter,ifs,0⟩] scope pos) spos) (DW i (AM k wi g tt te)):=by
 intro pins s σ H D I h;rw [PySem.exec_Assign_Name_used _ _ _ _ hsw];refine KW (ND (KW ?_))
 show wpAny _ X.A (do let _ ←comprehension (.ListComp elt [⟨tg,iter,ifs,0⟩] scope pos) scope X.env _ (newList []) false (eval iter X.env) (some (assign (.Name y py) X.env))) _ _ s
 refine KW (thn (NX (use:=some (assign (.Name y py) X.env)) (Q:=λ _ s'=>SP X pins D .next s') rfl hs (fH (c.cells I)) c.kind c.names (thn (hi pins s σ H _ I h) λ v s1 h1=>thn h1 λ itv s2 h2=>?_)) λ _ s' hq=>K8 (K8 hq));obtain⟨it,fp,tn,J,H2,rfl,I2,T,st2,f2,hW⟩:=h2;refine jw (Q:=λ x H1=>D.nx (σ.set i (some x)) H1) (RR:=λ acc C=>PySem.compPost (model X.prog X.w) X.A X.xe (some (assign (.Name y py) X.env)) (λ _ s'=>SP X pins D .next s') acc C) c hc I2 T st2 f2 hg ht he hW ?_;intro D' C s' H' m hn hCl hCc hCo hI q
 show wpAny _ X.A (assign (.Name y py) X.env (.ref D')) _ _ s'
 have I':Inv X pins σ H' s':=hI s'.heap (Heap.SameBut.refl _ _);refine wpAny_assign_Name (lW I' hN hi' hy (show bp (.ref D') (.ref D') from rfl) (λ s'' I'' ⟨a,sb,ha⟩=>?_) hf)
 have hCa:C ≠ a:=by
  rcases ha with rfl|ha
  ·exact hCl
  ·exact λ z=>hCc _ _ ha z.symm
 refine⟨m,hn.sameBut sb hCa,λ h' hs'=>⟨_,H',?_,q⟩⟩;exact I''.turned (t':=s''.toks) (λ b o hb e=>(hs'.2 b hb).trans e) hCo.1 hCl (.inr hCo.2.1) hCc hCo.2.2
end
section
variable {M:Model}{A:Around}{E:Value->Shared->Prop}{s:Shared}
end
section
variable {X:Cx}
set_option genInjectivity false in
end
structure Hk(K:W.Frag)(x qual:Str)(st:Stmt)(f:Addr)(fd:FuncData):Prop where
 ex:∃ (oc:Value) (od:Option Addr) (dV kV doc pm:Value) (an:Option Addr) (cdv ct:Value) (osl:Array (Option Value)),
  fd=W.fnOf x qual (cY st) (b9 st) (aa st) dV kV doc pm an cdv ct/\K.lookup f=some ⟨oc,od,.func fd,osl⟩/\W.codeIn K cdv qual=true
 kp:W.keepIn K (.ref f)=true
section
variable {P:Program}{w:World}{K:PySem.W.Frag}{mg:Str->Option Value}{base:Heap}
theorem Hk.ok{CX:CXT}{x qual:Str}{st:Stmt}{f:Addr}{fd:FuncData}{N ps:List Str}{k:Nat}{sp:Sp}(F:Hk K x qual st f fd)(S:ao N ps (aa st))(len:∀ vs H Q E,sp vs H Q E->vs.length=ps.length)
  (hbody:∀ (cdv:Value) (A:Around) (outer:List Env) (s:Shared) (H:Hp) (vs:List V) (Q:VK) (E:XK),gE k (A.deeper (envOfC qual (aa st) s.heap.objs.size f cdv))->sp vs H Q E →
   ∃ t,PSs (zY CX P w K mg base N qual (aa st) f cdv A outer s H E) (b9 st) t/\t { nx:=λ _ H'=>Q .non H',rt:=Q } (start N vs) H):bC P w K mg base CX (k+1) f fd ps sp:=by
 obtain⟨oc,od,dV,kV,doc,pm,an,cdv,ct,osl,rfl,lk,hcd⟩:=F.ex;exact Ex lk hcd S len λ A outer s H vs Q E hr hsp=>hbody cdv A outer s H vs Q E hr hsp
theorem Dv{x qual:Str}{st:Stmt}{f:Addr}{oc:Value}{od an:Option Addr}{osl:Array (Option Value)}{dV kV doc pm cdv ct:Value}(l:K.lookup f=some ⟨oc,od,.func (W.fnOf x qual (cY st) (b9 st) (aa st) dV kV doc pm an cdv ct),osl⟩)
  (c:W.codeIn K cdv qual=true) (k:W.keepIn K (.ref f)=true):Hk K x qual st f (W.fnOf x qual (cY st) (b9 st) (aa st) dV kV doc pm an cdv ct):=⟨⟨oc,od,dV,kV,doc,pm,an,cdv,ct,osl,rfl,l,c⟩,k⟩
end
open PySem.W
section
variable {prog:Program}{w:World}{A:Around}{E:Value->Shared->Prop}{s:Shared}{K:PySem.W.Frag}{x C:Addr}{ox:Obj}{od:Option Obj}{name:Str}
end
section
variable {X:Cx}
end
section
variable {prog:Program}{w:World}{A:Around}{R:Result->Shared->Prop}{h:Heap}{g:Array GenState}{d:Drawn}{t:Nat}{os:OsState}{K:Frag}
variable {nm q:Str}{C N fI:Addr}{bs bm bmB:List Value}{hdct:Bool}{sn:List Str}{sub:List Value}{ab:Bool}{col:Option Bool}{dd:Option Addr}{k0 k1 k2 k3 k5:Option Value}{B Bn newId nid initId inN:String}{bmN:List Value}
end
section
variable {prog:Program}{w:World}{A:Around}{E:Value->Shared->Prop}{K:Frag}{x C:Addr}{s:Shared}{name:Str}{v:Value}
end
section
variable {prog:Program}{w:World}{A:Around}{E:Value->Shared->Prop}{s:Shared}{K:PySem.W.Frag}{x C dx:Addr}{ox:Obj}{od:Option Obj}{name:Str}{mA:Str->Option Value}{u:Value}
end
section
variable {prog:Program}{w:World}{A:Around}{E:Value->Shared->Prop}{h:Heap}{g:Array GenState}{d:Drawn}{t:Nat}{os:OsState}{e a0:Addr}{dct:Option Addr}
variable {nm q:Str}{C N:Addr}{bs bm bmB:List Value}{hdct:Bool}{sn:List Str}{sub:List Value}{ab:Bool}{col:Option Bool}{dd:Option Addr}{k0 k1 k2 k3 k5:Option Value}{B newId nid initId:String}
end
section
variable {X:Cx}{pins:List (Addr × Obj)}{σ:St}{H:Hp}{s:Shared}
end
section
variable {X:Cx}{e o value:Expr}{ta tv:TE}{f:Str}{pos pos':Pos}
end
def del(H:Hp)(e:Addr):Hp:=λ b=>if b=e then none else H b
section
variable {X:Cx}
end
theorem Du{a:Option V}{v:V}{σ:St}{H:Hp}{Q:St->Hp->Prop}:cq 0 v (a::σ) H Q=Q (some v::σ) H:=rfl
theorem Dt{a0:Option V}{a:Option V}{v:V}{σ:St}{H:Hp}{Q:St->Hp->Prop}:cq 1 v (a0::a::σ) H Q=Q (a0::some v::σ) H:=rfl
theorem Ds{a0 a1:Option V}{a:Option V}{v:V}{σ:St}{H:Hp}{Q:St->Hp->Prop}:cq 2 v (a0::a1::a::σ) H Q=Q (a0::a1::some v::σ) H:=rfl
theorem Dr{a0 a1 a2:Option V}{a:Option V}{v:V}{σ:St}{H:Hp}{Q:St->Hp->Prop}:cq 3 v (a0::a1::a2::a::σ) H Q=Q (a0::a1::a2::some v::σ) H:=rfl
theorem Dq{a0 a1 a2 a3:Option V}{a:Option V}{v:V}{σ:St}{H:Hp}{Q:St->Hp->Prop}:cq 4 v (a0::a1::a2::a3::a::σ) H Q=Q (a0::a1::a2::a3::some v::σ) H:=rfl
theorem Dp{a0 a1 a2 a3 a4:Option V}{a:Option V}{v:V}{σ:St}{H:Hp}{Q:St->Hp->Prop}:cq 5 v (a0::a1::a2::a3::a4::a::σ) H Q=Q (a0::a1::a2::a3::a4::some v::σ) H:=rfl
theorem Dn{a0 a1 a2 a3 a4 a5:Option V}{a:Option V}{v:V}{σ:St}{H:Hp}{Q:St->Hp->Prop}:cq 6 v (a0::a1::a2::a3::a4::a5::a::σ) H Q=Q (a0::a1::a2::a3::a4::a5::some v::σ) H:=rfl
theorem Dm{a0 a1 a2 a3 a4 a5 a6:Option V}{a:Option V}{v:V}{σ:St}{H:Hp}{Q:St->Hp->Prop}:cq 7 v (a0::a1::a2::a3::a4::a5::a6::a::σ) H Q=Q (a0::a1::a2::a3::a4::a5::a6::some v::σ) H:=rfl
theorem Dl{a0 a1 a2 a3 a4 a5 a6 a7:Option V}{a:Option V}{v:V}{σ:St}{H:Hp}{Q:St->Hp->Prop}:cq 8 v (a0::a1::a2::a3::a4::a5::a6::a7::a::σ) H Q=Q (a0::a1::a2::a3::a4::a5::a6::a7::some v::σ) H:=rfl
theorem Dk{a0 a1 a2 a3 a4 a5 a6 a7 a8:Option V}{a:Option V}{v:V}{σ:St}{H:Hp}{Q:St->Hp->Prop}:cq 9 v (a0::a1::a2::a3::a4::a5::a6::a7::a8::a::σ) H Q=Q (a0::a1::a2::a3::a4::a5::a6::a7::a8::some v::σ) H:=rfl
theorem zq{a0 a1 a2 a3 a4 a5 a6 a7 a8 a9:Option V}{a:Option V}{v:V}{σ:St}{H:Hp}{Q:St->Hp->Prop}:cq 10 v (a0::a1::a2::a3::a4::a5::a6::a7::a8::a9::a::σ) H Q=Q (a0::a1::a2::a3::a4::a5::a6::a7::a8::a9::some v::σ) H:=rfl
theorem zp{a0 a1 a2 a3 a4 a5 a6 a7 a8 a9 a10:Option V}{a:Option V}{v:V}{σ:St}{H:Hp}{Q:St->Hp->Prop}:cq 11 v (a0::a1::a2::a3::a4::a5::a6::a7::a8::a9::a10::a::σ) H Q=Q (a0::a1::a2::a3::a4::a5::a6::a7::a8::a9::a10::some v::σ) H:=rfl
theorem zo{a0 a1 a2 a3 a4 a5 a6 a7 a8 a9 a10 a11:Option V}{a:Option V}{v:V}{σ:St}{H:Hp}{Q:St->Hp->Prop}:cq 12 v (a0::a1::a2::a3::a4::a5::a6::a7::a8::a9::a10::a11::a::σ) H Q=Q (a0::a1::a2::a3::a4::a5::a6::a7::a8::a9::a10::a11::some v::σ) H:=rfl
theorem zm{a0 a1 a2 a3 a4 a5 a6 a7 a8 a9 a10 a11 a12:Option V}{a:Option V}{v:V}{σ:St}{H:Hp}{Q:St->Hp->Prop}:cq 13 v (a0::a1::a2::a3::a4::a5::a6::a7::a8::a9::a10::a11::a12::a::σ) H Q=Q (a0::a1::a2::a3::a4::a5::a6::a7::a8::a9::a10::a11::a12::some v::σ) H:=rfl
theorem zk{a0 a1 a2 a3 a4 a5 a6 a7 a8 a9 a10 a11 a12 a13:Option V}{a:Option V}{v:V}{σ:St}{H:Hp}{Q:St->Hp->Prop}:cq 14 v (a0::a1::a2::a3::a4::a5::a6::a7::a8::a9::a10::a11::a12::a13::a::σ) H Q=Q (a0::a1::a2::a3::a4::a5::a6::a7::a8::a9::a10::a11::a12::a13::some v::σ) H:=rfl
theorem zj{a0 a1 a2 a3 a4 a5 a6 a7 a8 a9 a10 a11 a12 a13 a14:Option V}{a:Option V}{v:V}{σ:St}{H:Hp}{Q:St->Hp->Prop}:cq 15 v (a0::a1::a2::a3::a4::a5::a6::a7::a8::a9::a10::a11::a12::a13::a14::a::σ) H Q=Q (a0::a1::a2::a3::a4::a5::a6::a7::a8::a9::a10::a11::a12::a13::a14::some v::σ) H:=rfl
theorem zh{a0 a1 a2 a3 a4 a5 a6 a7 a8 a9 a10 a11 a12 a13 a14 a15:Option V}{a:Option V}{v:V}{σ:St}{H:Hp}{Q:St->Hp->Prop}:cq 16 v (a0::a1::a2::a3::a4::a5::a6::a7::a8::a9::a10::a11::a12::a13::a14::a15::a::σ) H Q=Q (a0::a1::a2::a3::a4::a5::a6::a7::a8::a9::a10::a11::a12::a13::a14::a15::some v::σ) H:=rfl
def aO{α:Type}:Option α->(α->Prop)->Prop
 | some x,k=>k x
 | none,_=>False
theorem ma{α:Type}(x:α)(k:α->Prop):aO (some x) k=k x:=rfl
theorem au{α:Type}{o:Option α}{k:α->Prop}(h:aO o k):∃ x,o=some x/\k x:=by
 cases o with
 | none=>exact h.elim
 | some x=>exact⟨x,rfl,h⟩
def Ha:HO->Option (List V)
 | .lst xs=>some xs
 | .tup xs=>some xs
 | .frz _ (.lst xs)=>some xs
 | _=>none
def HB:HO->Option (List V)
 | .lst xs=>some xs
 | _=>none
def Ho:HO->Option (List V)
 | .tup xs=>some xs
 | _=>none
def cX(H:Hp)(p:Addr):Option (List V):=(H p).bind Ha
def aD(H:Hp)(p:Addr):Option (List V):=(H p).bind HB
def gT(H:Hp)(p:Addr):Option (List V):=(H p).bind Ho
theorem xT(xs:List V):Ha (.lst xs)=some xs:=rfl
theorem xS(xs:List V):Ha (.tup xs)=some xs:=rfl
theorem yF(xs:List V):HB (.lst xs)=some xs:=rfl
theorem xQ(xs:List V):Ho (.tup xs)=some xs:=rfl
theorem sE{α β:Type}(x:α)(f:α->Option β):(some x).bind f=f x:=rfl
abbrev Ext(H H':Hp):Prop:=(∀ a,(H a).isSome=true->H' a=H a)/\∀ (K:PySem.W.Frag) a xs,SqL K H a xs->SqL K H' a xs
def Hd(r:R2)(x:V)(Q:VK):VK:=λ y H=>r x y H Q
theorem Au(r:R2)(x y:V)(H:Hp)(Q:VK):(Hd r x Q y H)=(r x y H Q):=rfl
def kOp(r:R2)(tb:TE)(σ:St)(Q:VK):VK:=λ x H=>tb σ H (Hd r x Q)
theorem IU(r:R2)(tb:TE)(σ:St)(Q:VK)(x:V)(H:Hp):(kOp r tb σ Q x H)=(tb σ H (Hd r x Q)):=rfl
theorem IC(r:R2)(ta tb:TE)(σ:St)(H:Hp)(Q:VK):(tOp r ta tb σ H Q)=(ta σ H (kOp r tb σ Q)):=rfl
theorem Kw(v:V)(σ:St)(H:Hp)(Q:VK):(tC v σ H Q)=(Q v H):=rfl
def kUn(r:V->Hp->VK->Prop)(Q:VK):VK:=λ x H=>r x H Q
theorem IM(r:V->Hp->VK->Prop)(Q:VK)(x:V)(H:Hp):(kUn r Q x H)=(r x H Q):=rfl
theorem Iz(r:V->Hp->VK->Prop)(ta:TE)(σ:St)(H:Hp)(Q:VK):(tUn r ta σ H Q)=(ta σ H (kUn r Q)):=rfl
def Hr:R2:=λ x y H Q=>y=.non/\Q (.bl (decide (x=.non))) H
def AR:R2:=λ x y H Q=>y=.non/\Q (.bl (!decide (x=.non))) H
theorem rj(H:Hp)(Q:VK):Hr (.non) .non H Q=Q (.bl true) H:=propext ⟨λ h=>h.2,λ h=>⟨rfl,h⟩⟩
theorem oF(H:Hp)(Q:VK):AR (.non) .non H Q=Q (.bl false) H:=propext ⟨λ h=>h.2,λ h=>⟨rfl,h⟩⟩
theorem rh(i:Addr)(H:Hp)(Q:VK):Hr (.ref i) .non H Q=Q (.bl false) H:=propext ⟨λ h=>h.2,λ h=>⟨rfl,h⟩⟩
theorem oE(i:Addr)(H:Hp)(Q:VK):AR (.ref i) .non H Q=Q (.bl true) H:=propext ⟨λ h=>h.2,λ h=>⟨rfl,h⟩⟩
def Em(Q:Bool->Hp->Prop):VK:=λ x H=>∃ k,x=.bl k/\Q k H
def JP(Q:Bool->Hp->Prop):Bool->Hp->Prop:=λ c H=>Q (!c) H
theorem Ge(Q:Bool->Hp->Prop)(c:Bool)(H:Hp):(JP Q c H)=(Q (!c) H):=rfl
theorem Fv(t:TT)(σ:St)(H:Hp)(Q:Bool->Hp->Prop):(Ju t σ H Q)=(t σ H (JP Q)):=rfl
def JZ(u:TT)(σ:St)(Q:Bool->Hp->Prop):Bool->Hp->Prop:=λ c H=>if c=true then u σ H Q else Q false H
theorem GH(u:TT)(σ:St)(Q:Bool->Hp->Prop)(c:Bool)(H:Hp):(JZ u σ Q c H)=(if c=true then u σ H Q else Q false H):=rfl
theorem FE(t u:TT)(σ:St)(H:Hp)(Q:Bool->Hp->Prop):(JA t u σ H Q)=(t σ H (JZ u σ Q)):=rfl
def kOr(u:TT)(σ:St)(Q:Bool->Hp->Prop):Bool->Hp->Prop:=λ c H=>if c=true then Q true H else u σ H Q
theorem IT(u:TT)(σ:St)(Q:Bool->Hp->Prop)(c:Bool)(H:Hp):(kOr u σ Q c H)=(if c=true then Q true H else u σ H Q):=rfl
theorem IB(t u:TT)(σ:St)(H:Hp)(Q:Bool->Hp->Prop):(tOr t u σ H Q)=(t σ H (kOr u σ Q)):=rfl
def Jg(tb:TE)(σ:St)(Q:VK):VK:=λ x H=>∃ c,x=.bl c/\if c=true then tb σ H Q else Q (.bl false) H
def KH(tb:TE)(σ:St)(Q:VK):VK:=λ x H=>∃ c,x=.bl c/\if c=true then Q (.bl true) H else tb σ H Q
def Jc(Q:VK):VK:=λ x H=>∃ c,x=.bl c/\Q (.bl (!c)) H
def JR(ta tb:TE)(σ:St)(Q:VK):Bool->Hp->Prop:=λ c H=>if c=true then ta σ H Q else tb σ H Q
theorem Gk(ta tb:TE)(σ:St)(Q:VK)(c:Bool)(H:Hp):(JR ta tb σ Q c H)=(if c=true then ta σ H Q else tb σ H Q):=rfl
theorem ID(t:TT)(ta tb:TE)(σ:St)(H:Hp)(Q:VK):(tIf t ta tb σ H Q)=(t σ H (JR ta tb σ Q)):=rfl
def Hj(r':R2)(y:V)(Q:VK):VK:=λ w H=>r' y w H Q
theorem Gx(r':R2)(y w:V)(Q:VK)(H:Hp):(Hj r' y Q w H)=(r' y w H Q):=rfl
def HQ(r':R2)(tc:TE)(σ:St)(y:V)(Q:VK):VK:=λ z H=>∃ k,z=.bl k/\(if k=true then tc σ H (Hj r' y Q) else Q (.bl false) H)
def JV(r r':R2)(tc:TE)(σ:St)(x:V)(Q:VK):VK:=λ y H=>r x y H (HQ r' tc σ y Q)
def KI(r r':R2)(tb tc:TE)(σ:St)(Q:VK):VK:=λ x H=>tb σ H (JV r r' tc σ x Q)
theorem Fw(σ:St)(H:Hp)(Q:List V->Hp->Prop):(DK σ H Q)=(Q [] H):=rfl
def uu(x:V)(Q:List V->Hp->Prop):List V->Hp->Prop:=λ xs H=>Q (x::xs) H
theorem yC(x:V)(Q:List V->Hp->Prop)(xs:List V)(H:Hp):(uu x Q xs H)=(Q (x::xs) H):=rfl
def Es(tr:TA)(σ:St)(Q:List V->Hp->Prop):VK:=λ x H=>tr σ H (uu x Q)
theorem CU(tr:TA)(σ:St)(Q:List V->Hp->Prop)(x:V)(H:Hp):(Es tr σ Q x H)=(tr σ H (uu x Q)):=rfl
theorem Cd(ta:TE)(tr:TA)(σ:St)(H:Hp)(Q:List V->Hp->Prop):(sU ta tr σ H Q)=(ta σ H (Es tr σ Q)):=rfl
def qL(sp:Sp)(dvs:List V)(E:XK)(Q:VK):List V->Hp->Prop:=λ vs H=>sp (vs++dvs) H Q E
theorem wt(v0:V)(sp:Sp)(dvs:List V)(E:XK)(Q:VK)(H:Hp):qL sp dvs E Q [v0] H=sp (v0::dvs) H Q E:=rfl
theorem wq(v0 v1:V)(sp:Sp)(dvs:List V)(E:XK)(Q:VK)(H:Hp):qL sp dvs E Q [v0,v1] H=sp (v0::v1::dvs) H Q E:=rfl
theorem wo(v0 v1 v2:V)(sp:Sp)(dvs:List V)(E:XK)(Q:VK)(H:Hp):qL sp dvs E Q [v0,v1,v2] H=sp (v0::v1::v2::dvs) H Q E:=rfl
theorem wm(v0 v1 v2 v3:V)(sp:Sp)(dvs:List V)(E:XK)(Q:VK)(H:Hp):qL sp dvs E Q [v0,v1,v2,v3] H=sp (v0::v1::v2::v3::dvs) H Q E:=rfl
theorem wj(v0 v1 v2 v3 v4:V)(sp:Sp)(dvs:List V)(E:XK)(Q:VK)(H:Hp):qL sp dvs E Q [v0,v1,v2,v3,v4] H=sp (v0::v1::v2::v3::v4::dvs) H Q E:=rfl
theorem Cf(sp:Sp)(dvs:List V)(E:XK)(t:TA)(σ:St)(H:Hp)(Q:VK):(D5 sp dvs E t σ H Q)=(t σ H (qL sp dvs E Q)):=rfl
def kCB(r:List V->Hp->VK->Prop)(Q:VK):List V->Hp->Prop:=λ vs H=>r vs H Q
theorem I0(r:List V->Hp->VK->Prop)(Q:VK)(vs:List V)(H:Hp):(kCB r Q vs H)=(r vs H Q):=rfl
theorem IE(r:List V->Hp->VK->Prop)(t:TA)(σ:St)(H:Hp)(Q:VK):(tCB r t σ H Q)=(t σ H (kCB r Q)):=rfl
theorem Ca(nx:St->Hp->Prop)(rt:VK)(bk ct:St->Hp->Prop)(σ:St)(H:Hp):(DZ ⟨nx,rt,bk,ct⟩ σ H)=(nx σ H):=rfl
theorem Fs(t u:TS)(nx:St->Hp->Prop)(rt:VK)(bk ct:St->Hp->Prop)(σ:St)(H:Hp):(Jq t u ⟨nx,rt,bk,ct⟩ σ H)=(t ⟨u ⟨nx,rt,bk,ct⟩,rt,bk,ct⟩ σ H):=rfl
theorem Ft(te:TE)(nx:St->Hp->Prop)(rt:VK)(bk ct:St->Hp->Prop)(σ:St)(H:Hp):(Jr te ⟨nx,rt,bk,ct⟩ σ H)=(te σ H rt):=rfl
def Er(nx:St->Hp->Prop)(σ:St):VK:=λ x H=>nx σ H
theorem CT(nx:St->Hp->Prop)(σ:St)(x:V)(H:Hp):(Er nx σ x H)=(nx σ H):=rfl
theorem Cb(te:TE)(nx:St->Hp->Prop)(rt:VK)(bk ct:St->Hp->Prop)(σ:St)(H:Hp):(D0 te ⟨nx,rt,bk,ct⟩ σ H)=(te σ H (Er nx σ)):=rfl
def JQ(t u:TS)(D:oV)(σ:St):Bool->Hp->Prop:=λ b H=>if b=true then t D σ H else u D σ H
theorem Gj(t u:TS)(D:oV)(σ:St)(b:Bool)(H:Hp):(JQ t u D σ b H)=(if b=true then t D σ H else u D σ H):=rfl
theorem Fy(c:TT)(t u:TS)(D:oV)(σ:St)(H:Hp):(Jw c t u D σ H)=(c σ H (JQ t u D σ)):=rfl
def JX(g:TG)(σ:St)(nx:St->Hp->Prop):VK:=λ x H=>g x σ H nx
theorem GF(g:TG)(σ:St)(nx:St->Hp->Prop)(x:V)(H:Hp):(JX g σ nx x H)=(g x σ H nx):=rfl
theorem FD(te:TE)(g:TG)(nx:St->Hp->Prop)(rt:VK)(bk ct:St->Hp->Prop)(σ:St)(H:Hp):(Hq te g ⟨nx,rt,bk,ct⟩ σ H)=(te σ H (JX g σ nx)):=rfl
def JO(i j:Nat)(σ:St)(nx:St->Hp->Prop):List V->Hp->Prop:=λ vs H=>∃ v w,vs=[v,w]/\nx ((σ.set i (some v)).set j (some w)) H
theorem Gb(i j:Nat)(σ:St)(nx:St->Hp->Prop)(v w:V)(H:Hp):JO i j σ nx [v,w] H=cq i v σ H (λ σ' H'=>cq j w σ' H' nx):=propext ⟨λ ⟨_,_,e,q⟩=>by cases e;exact q,λ q=>⟨v,w,rfl,q⟩⟩
theorem Fu(i j:Nat)(ta:TA)(nx:St->Hp->Prop)(rt:VK)(bk ct:St->Hp->Prop)(σ:St)(H:Hp):(Js i j ta ⟨nx,rt,bk,ct⟩ σ H)=(ta σ H (JO i j σ nx)):=rfl
def kGs(u:TGs)(r:List V)(Q:St->Hp->Prop):St->Hp->Prop:=λ σ' H'=>u r σ' H' Q
theorem IX(u:TGs)(r:List V)(Q:St->Hp->Prop)(σ:St)(H:Hp):(kGs u r Q σ H)=(u r σ H Q):=rfl
section
variable {X:Cx}
theorem OpR.mono{f:Value->Value->Sem Value}{r r':R2}(h:OpR X f r)(m:∀ x y H Q,r' x y H Q->r x y H Q):OpR X f r':=λ pins s σ H x y v u Q I rx ry hq=>h pins s σ H x y v u Q I rx ry (m _ _ _ _ hq)
theorem bK.mono{f:Value}{r r':List V->Hp->VK->Prop}(h:bK X f r)(m:∀ xs H Q,r' xs H Q->r xs H Q):bK X f r':=λ pins s σ H xs us Q I rx hq=>h pins s σ H xs us Q I rx (m _ _ _ hq)
theorem IxR.mono{r r':R2}(h:IxR X r)(m:∀ x y H Q,r' x y H Q->r x y H Q):IxR X r':=λ a b pins s σ H x y v u Q I rx ry hq=>h a b pins s σ H x y v u Q I rx ry (m _ _ _ _ hq)
theorem SlR.mono{r r':V->Option Int->Option Int->Hp->VK->Prop}(h:SlR X r)(m:∀ x lo hi H Q,r' x lo hi H Q->r x lo hi H Q):SlR X r':=λ pins s σ H x v vl vu lo hi sl Q I rx a b c hq=>h pins s σ H x v vl vu lo hi sl Q I rx a b c (m _ _ _ _ _ hq)
theorem PG.mono{tg:Expr}{g g':TG}(h:PG X tg g)(m:∀ v σ H Q,g' v σ H Q->g v σ H Q):PG X tg g':=λ pins s σ H v u Q I r hq=>h pins s σ H v u Q I r (m _ _ _ _ hq)
theorem iw{K:W.Frag}{H:Hp}{p:Addr}{ys:List V}(h:cX H p=some ys):SqL K H p ys\/SqT K H p ys:=by
 unfold cX at h
 cases e:H p with
 | none=>rw [e] at h;cases h
 | some o=>
  rw [e] at h;have h':Ha o=some ys:=h
  cases o with
  | lst xs=>cases h';exact .inl (SqL.of e)
  | tup xs=>cases h';exact .inr (SqT.of e)
  | frz ob u=>
   cases u with
   | lst xs=>cases h';exact .inl (.inl (.inr ⟨ob,e⟩))
   | _=>cases h'
  | _=>cases h'
theorem cI{H:Hp}{p:Addr}{ys:List V}(h:aD H p=some ys):H p=some (.lst ys):=by
 unfold aD at h
 cases e:H p with
 | none=>rw [e] at h;cases h
 | some o=>
  rw [e] at h;have h':HB o=some ys:=h
  cases o with
  | lst xs=>cases h';rfl
  | _=>cases h'
theorem oY{H:Hp}{p:Addr}{ys:List V}(h:gT H p=some ys):H p=some (.tup ys):=by
 unfold gT at h
 cases e:H p with
 | none=>rw [e] at h;cases h
 | some o=>
  rw [e] at h;have h':Ho o=some ys:=h
  cases o with
  | tup xs=>cases h';rfl
  | _=>cases h'
def HG(H:Hp)(Q:VK):List V->Prop:=λ ys=>Q (.int ys.length) H
theorem Gh(H:Hp)(Q:VK)(ys:List V):HG H Q ys=Q (.int ys.length) H:=rfl
def DN(xs:List V)(H:Hp)(Q:VK):Prop:=match xs with
 | [.ref p]=>aO (cX H p) (HG H Q)
 | [.str z]=>z.length<=sizeLine/\Q (.int z.length) H
 | _=>False
theorem FN(p:Addr)(H:Hp)(Q:VK):DN [.ref p] H Q=aO (cX H p) (HG H Q):=rfl
theorem aw:bK X (.builtin "len") DN:=by
 refine(cQ.or m7).mono λ xs H Q h=>?_;unfold DN at h;split at h
 ·rename_i p;obtain⟨ys,e,q⟩:=au h;exact .inl ⟨p,ys,rfl,iw e,q⟩
 ·rename_i z;exact .inr ⟨z,rfl,h.1,h.2⟩
 ·exact h.elim
def HH(H:Hp)(Q:VK):V->Prop:=λ v=>Q v H
theorem Gi(H:Hp)(Q:VK)(v:V):HH H Q v=Q v H:=rfl
def kIx(i:Int)(H:Hp)(Q:VK):List V->Prop:=λ ys=>aO (atI ys i) (HH H Q)
theorem IW(i:Int)(H:Hp)(Q:VK)(ys:List V):kIx i H Q ys=aO (atI ys i) (HH H Q):=rfl
def qIx:R2:=λ x y H Q=>match x,y with
 | .ref p,.int i=>aO (cX H p) (kIx i H Q)
 | _,_=>False
theorem IG(p:Addr)(i:Int)(H:Hp)(Q:VK):qIx (.ref p) (.int i) H Q=aO (cX H p) (kIx i H Q):=rfl
theorem ay:IxR X qIx:=by
 refine(oi.or GX).mono λ x y H Q h=>?_;unfold qIx at h;split at h
 ·rename_i p i;obtain⟨ys,e,q⟩:=au h;obtain⟨v,e2,q2⟩:=au q
  rcases iw (K:=X.K) e with z|z
  ·exact .inl ⟨p,ys,i,v,rfl,rfl,z,e2,q2⟩
  ·exact .inr ⟨p,ys,i,v,rfl,rfl,z,e2,q2⟩
 ·exact h.elim
theorem Jl{α:Type}(a:α)(xs:List α):atI (a::xs) 0=some a:=cZ (j:=0) rfl
theorem Jk{α:Type}(a b:α)(xs:List α):atI (a::b::xs) 1=some b:=cZ (j:=1) rfl
theorem Jj{α:Type}(a b c:α)(xs:List α):atI (a::b::c::xs) 2=some c:=cZ (j:=2) rfl
def Jd(H:Hp)(Q:VK):List V->Prop:=λ ys=>∀ l,H l=none->Q (.ref l) (upd H l (.lst ys))
def Ed(xs:List V)(H:Hp)(Q:VK):Prop:=match xs with
 | [.ref p]=>aO (cX H p) (Jd H Q)
 | _=>False
theorem si:bK X (.type "list") Ed:=by
 refine m6.mono λ xs H Q h=>?_;unfold Ed at h;split at h
 ·rename_i p;obtain⟨ys,e,q⟩:=au h;exact⟨p,ys,rfl,iw e,q⟩
 ·exact h.elim
def A6(p:Addr)(H:Hp)(Q:VK):HO->Prop:=λ o=>match o with
 | .lst ys=>∀ l,H l=none->Q (.ref l) (upd H l (.tup ys))
 | .tup _=>Q (.ref p) H
 | _=>False
def Aj(xs:List V)(H:Hp)(Q:VK):Prop:=match xs with
 | [.ref p]=>aO (H p) (A6 p H Q)
 | _=>False
theorem oN:bK X (.type "tuple") Aj:=by
 refine lu.mono λ xs H Q h=>?_;unfold Aj at h;split at h
 ·rename_i p;obtain⟨o,e,q⟩:=au h;unfold A6 at q;split at q
  ·rename_i ys;exact⟨p,ys,rfl,.inl ⟨SqL.of e,q⟩⟩
  ·rename_i ys;exact⟨p,ys,rfl,.inr ⟨SqT.of e,q⟩⟩
  ·exact q.elim
 ·exact h.elim
def Hw(xs:List V)(H:Hp)(Q:VK):Prop:=match xs with
 | [.int i]=>Q (.int (if i < 0 then -i else i)) H
 | _=>False
theorem FP(i:Int)(H:Hp)(Q:VK):Hw [.int i] H Q=Q (.int (if i < 0 then -i else i)) H:=rfl
theorem bQ:bK X (.builtin "abs") Hw:=by
 refine zI.mono λ xs H Q h=>?_;unfold Hw at h;split at h
 ·rename_i i;exact⟨i,rfl,h⟩
 ·exact h.elim
def Hu(xs:List V)(H:Hp)(Q:VK):Prop:=match xs with
 | [.int i,.int j]=>Q (.int (if i < j then j else i)) H
 | _=>False
theorem FK(i j:Int)(H:Hp)(Q:VK):Hu [.int i,.int j] H Q=Q (.int (if i < j then j else i)) H:=rfl
theorem fE(hc:X.calm=true):bK X (.builtin "max") Hu:=by
 refine(xc hc).mono λ xs H Q h=>?_;unfold Hu at h;split at h
 ·rename_i i j;exact⟨i,j,rfl,h⟩
 ·exact h.elim
def Ht(xs:List V)(H:Hp)(Q:VK):Prop:=match xs with
 | [.int i,.int j]=>Q (.int (if j < i then j else i)) H
 | _=>False
theorem FJ(i j:Int)(H:Hp)(Q:VK):Ht [.int i,.int j] H Q=Q (.int (if j < i then j else i)) H:=rfl
theorem ef(hc:X.calm=true):bK X (.builtin "min") Ht:=by
 refine(xb hc).mono λ xs H Q h=>?_;unfold Ht at h;split at h
 ·rename_i i j;exact⟨i,j,rfl,h⟩
 ·exact h.elim
def tyO:HO->Option String
 | .lst _=>some "list"
 | .tup _=>some "tuple"
 | .frz _ (.lst _)=>some "list"
 | .dK _=>some "dict"
 | .dT _=>some "dict"
 | _=>none
theorem Bp(xs:List V):tyO (.lst xs)=some "list":=rfl
theorem Bo(xs:List V):tyO (.tup xs)=some "tuple":=rfl
def tyN(H:Hp):V->Option String
 | .non=>some "NoneType"
 | .bl _=>some "bool"
 | .int _=>some "int"
 | .str _=>some "str"
 | .ref p=>(H p).bind tyO
 | _=>none
theorem Bs(H:Hp):tyN H .non=some "NoneType":=rfl
theorem EF(H:Hp)(b:Bool):tyN H (.bl b)=some "bool":=rfl
theorem Bt(H:Hp)(i:Int):tyN H (.int i)=some "int":=rfl
theorem Bq(H:Hp)(x:Str):tyN H (.str x)=some "str":=rfl
theorem Br(H:Hp)(p:Addr):tyN H (.ref p)=(H p).bind tyO:=rfl
theorem EE{K:W.Frag}{H:Hp}{x:V}{t:String}(h:tyN H x=some t):oU K H x (.type t):=by
 cases x with
 | non=>cases h;exact .non
 | bl b=>cases h;exact .bl b
 | int i=>cases h;exact .int i
 | str x=>cases h;exact .str x
 | ref p=>
  have h':(H p).bind tyO=some t:=h
  cases e:H p with
  | none=>rw [e] at h';cases h'
  | some o=>
   rw [e] at h';have h2:tyO o=some t:=h'
   cases o with
   | lst xs=>cases h2;exact .lst e
   | tup xs=>cases h2;exact .tup e
   | dK xs=>cases h2;exact .dK e
   | dT xs=>cases h2;exact .dT e
   | frz ob u=>
    cases u with
    | lst xs=>cases h2;exact .frz e
    | _=>cases h2
   | _=>cases h2
 | _=>cases h
def lO:List String:=["NoneType", "bool", "int", "str", "list", "tuple", "dict"]
def J1(t n:String):Bool:=t == n || (t == "bool" && n == "int")
theorem yY(K:W.Frag):∀ t∈lO,∀ n∈lO,W.kitOne K (.type t) (.type n)=some (J1 t n):=by
 intro t ht n hn;unfold lO at ht hn;simp only [mem_cons,not_mem_nil,or_false] at ht hn
 rcases ht with rfl|rfl|rfl|rfl|rfl|rfl|rfl<;>rcases hn with rfl|rfl|rfl|rfl|rfl|rfl|rfl<;>exact wM K _ _ _ (by decide +kernel)
def lD(n:String)(H:Hp)(Q:VK):String->Prop:=λ t=>t∈lO/\Q (.bl (J1 t n)) H
def sM(xs:List V)(H:Hp)(Q:VK):Prop:=match xs with
 | [x,.ty n]=>n∈lO/\aO (tyN H x) (lD n H Q)
 | _=>False
theorem aK:bK X (.builtin "isinstance") sM:=by
 refine zH.mono λ xs H Q h=>?_;unfold sM at h;split at h
 ·rename_i x n;obtain⟨hn,h⟩:=h;obtain⟨t,e,ht,q⟩:=au h;exact⟨x,n,_,_,rfl,EE e,yY _ t ht n hn,q⟩
 ·exact h.elim
theorem rl(x:V)(H:Hp)(Q:VK):sM [x,.ty "int"] H Q=aO (tyN H x) (lD "int" H Q):=by
 unfold sM;exact propext ⟨λ h=>h.2,λ h=>⟨by decide,h⟩⟩
theorem oH(x:V)(H:Hp)(Q:VK):sM [x,.ty "bool"] H Q=aO (tyN H x) (lD "bool" H Q):=by
 unfold sM;exact propext ⟨λ h=>h.2,λ h=>⟨by decide,h⟩⟩
theorem m4(x:V)(H:Hp)(Q:VK):sM [x,.ty "tuple"] H Q=aO (tyN H x) (lD "tuple" H Q):=by
 unfold sM;exact propext ⟨λ h=>h.2,λ h=>⟨by decide,h⟩⟩
theorem oG(x:V)(H:Hp)(Q:VK):sM [x,.ty "list"] H Q=aO (tyN H x) (lD "list" H Q):=by
 unfold sM;exact propext ⟨λ h=>h.2,λ h=>⟨by decide,h⟩⟩
theorem rk(x:V)(H:Hp)(Q:VK):sM [x,.ty "str"] H Q=aO (tyN H x) (lD "str" H Q):=by
 unfold sM;exact propext ⟨λ h=>h.2,λ h=>⟨by decide,h⟩⟩
theorem wc(H:Hp)(Q:VK):lD "int" H Q "NoneType"=Q (.bl false) H:=propext ⟨λ h=>h.2,λ h=>⟨by decide,h⟩⟩
theorem wb(H:Hp)(Q:VK):lD "bool" H Q "bool"=Q (.bl true) H:=propext ⟨λ h=>h.2,λ h=>⟨by decide,h⟩⟩
theorem wa(H:Hp)(Q:VK):lD "int" H Q "bool"=Q (.bl true) H:=propext ⟨λ h=>h.2,λ h=>⟨by decide,h⟩⟩
theorem vY(H:Hp)(Q:VK):lD "bool" H Q "int"=Q (.bl false) H:=propext ⟨λ h=>h.2,λ h=>⟨by decide,h⟩⟩
theorem vX(H:Hp)(Q:VK):lD "int" H Q "int"=Q (.bl true) H:=propext ⟨λ h=>h.2,λ h=>⟨by decide,h⟩⟩
theorem vU(H:Hp)(Q:VK):lD "int" H Q "str"=Q (.bl false) H:=propext ⟨λ h=>h.2,λ h=>⟨by decide,h⟩⟩
theorem vT(H:Hp)(Q:VK):lD "str" H Q "str"=Q (.bl true) H:=propext ⟨λ h=>h.2,λ h=>⟨by decide,h⟩⟩
theorem vW(H:Hp)(Q:VK):lD "int" H Q "list"=Q (.bl false) H:=propext ⟨λ h=>h.2,λ h=>⟨by decide,h⟩⟩
theorem vV(H:Hp)(Q:VK):lD "list" H Q "list"=Q (.bl true) H:=propext ⟨λ h=>h.2,λ h=>⟨by decide,h⟩⟩
theorem vS(H:Hp)(Q:VK):lD "int" H Q "tuple"=Q (.bl false) H:=propext ⟨λ h=>h.2,λ h=>⟨by decide,h⟩⟩
theorem vR(H:Hp)(Q:VK):lD "tuple" H Q "tuple"=Q (.bl true) H:=propext ⟨λ h=>h.2,λ h=>⟨by decide,h⟩⟩
theorem vZ(H:Hp)(Q:VK):lD "int" H Q "dict"=Q (.bl false) H:=propext ⟨λ h=>h.2,λ h=>⟨by decide,h⟩⟩
def HV(r:V->List V->Hp->VK->Prop)(x:V)(Q:VK):List V->Hp->Prop:=λ xs H=>r x xs H Q
theorem GB(r:V->List V->Hp->VK->Prop)(x:V)(Q:VK)(xs:List V)(H:Hp):HV r x Q xs H=r x xs H Q:=rfl
def kBM(K:W.Frag)(T:String)(r:V->List V->Hp->VK->Prop)(t:TA)(σ:St)(Q:VK):VK:=λ x H=>tyV K T x H/\t σ H (HV r x Q)
theorem Ja(K:W.Frag)(T:String)(r:V->List V->Hp->VK->Prop)(t:TA)(σ:St)(Q:VK)(x:V)(H:Hp):kBM K T r t σ Q x H=(tyV K T x H/\t σ H (HV r x Q)):=rfl
theorem IF(K:W.Frag)(T:String)(r:V->List V->Hp->VK->Prop)(to:TE)(t:TA)(σ:St)(H:Hp)(Q:VK):tBM K T r to t σ H Q=to σ H (kBM K T r t σ Q):=rfl
def JW(K:W.Frag)(T:String)(r:V->List V->Hp->VK->Prop)(Q:VK):VK:=λ x H=>tyV K T x H/\r x [] H Q
theorem GA(K:W.Frag)(T:String)(r:V->List V->Hp->VK->Prop)(Q:VK)(x:V)(H:Hp):JW K T r Q x H=(tyV K T x H/\r x [] H Q):=rfl
theorem FC(K:W.Frag)(T:String)(r:V->List V->Hp->VK->Prop)(to:TE)(σ:St)(H:Hp)(Q:VK):Jz K T r to σ H Q=to σ H (JW K T r Q):=rfl
theorem xO(K:W.Frag)(p:Addr)(H:Hp)(h:(aD H p).isSome=true):tyV K "list" (.ref p) H=True:=by
 cases e:aD H p with
 | none=>rw [e] at h;cases h
 | some ys=>exact eq_true (.inl ⟨rfl,ys,SqL.of (cI e)⟩)
def JY(l:Addr)(y:V)(H:Hp)(Q:VK):List V->Prop:=λ xs=>xs.length < sizeLine/\Q .non (upd H l (.lst (xs++[y])))
theorem GG(l:Addr)(y:V)(H:Hp)(Q:VK)(xs:List V):JY l y H Q xs=(xs.length < sizeLine/\Q .non (upd H l (.lst (xs++[y])))):=rfl
theorem vP(l:Addr)(y:V)(H:Hp)(Q:VK):uG (.ref l) [y] H Q=aO (aD H l) (JY l y H Q):=by
 refine propext ⟨λ h=>?_,λ h=>?_⟩
 ·obtain⟨_,xs,_,e1,e2,e3,a,b⟩:=h;cases e1;cases e2;have e:aD H l=some xs:=by unfold aD;rw [e3];rfl
  rw [e];exact⟨a,b⟩
 ·obtain⟨xs,e,a,b⟩:=au h;exact⟨l,xs,y,rfl,rfl,cI e,a,b⟩
def JM(l:Addr)(H:Hp)(Q:VK):List V->Prop:=λ xs=>Q .non (upd H l (.lst xs.reverse))
theorem FZ(l:Addr)(H:Hp)(Q:VK)(xs:List V):JM l H Q xs=Q .non (upd H l (.lst xs.reverse)):=rfl
theorem rg(l:Addr)(H:Hp)(Q:VK):pT (.ref l) [] H Q=aO (aD H l) (JM l H Q):=by
 refine propext ⟨λ h=>?_,λ h=>?_⟩
 ·obtain⟨_,xs,e1,_,e3,b⟩:=h;cases e1;have e:aD H l=some xs:=by unfold aD;rw [e3];rfl
  rw [e];exact b
 ·obtain⟨xs,e,b⟩:=au h;exact⟨l,xs,rfl,rfl,cI e,b⟩
def Ba(l:Addr)(H:Hp)(Q:VK)(xs:List V):V->Prop:=λ y=>Q y (upd H l (.lst xs.dropLast))
theorem CH(l:Addr)(H:Hp)(Q:VK)(xs:List V)(y:V):Ba l H Q xs y=Q y (upd H l (.lst xs.dropLast)):=rfl
def JN(l:Addr)(H:Hp)(Q:VK):List V->Prop:=λ xs=>aO (xs[xs.length - 1]?) (Ba l H Q xs)
theorem Ga(l:Addr)(H:Hp)(Q:VK)(xs:List V):JN l H Q xs=aO (xs[xs.length - 1]?) (Ba l H Q xs):=rfl
theorem FF(l:Addr)(H:Hp)(Q:VK):JC (.ref l) [] H Q=aO (aD H l) (JN l H Q):=by
 refine propext ⟨λ h=>?_,λ h=>?_⟩
 ·obtain⟨_,xs,y,e1,_,e3,e4,b⟩:=h;cases e1;have e:aD H l=some xs:=by unfold aD;rw [e3];rfl
  rw [e]
  show aO (xs[xs.length - 1]?) _
  rw [e4];exact b
 ·obtain⟨xs,e,b⟩:=au h;obtain⟨y,e4,b⟩:=au b;exact⟨l,xs,y,rfl,rfl,cI e,e4,b⟩
def Je(xs:List V)(H:Hp)(Q:VK):List V->Prop:=λ ys=>xs.length+ys.length<=sizeLine/\∀ p,H p=none->Q (.ref p) (upd H p (.lst (xs++ys)))
def Jf(b:Addr)(H:Hp)(Q:VK):List V->Prop:=λ xs=>aO (aD H b) (Je xs H Q)
theorem FG(l b:Addr)(H:Hp)(Q:VK):JD (.ref l) (.ref b) H Q=aO (aD H l) (Jf b H Q):=by
 refine propext ⟨λ h=>?_,λ h=>?_⟩
 ·obtain⟨l',b',xs,zs,e1,e2,e3,e4,hz,hq⟩:=h;cases e1;cases e2;have e:aD H l=some xs:=by unfold aD;rw [e3];rfl
  have e':aD H b=some zs:=by unfold aD;rw [e4];rfl
  rw [e]
  show aO (aD H b) _
  rw [e'];exact⟨hz,hq⟩
 ·obtain⟨xs,e,q⟩:=au h;obtain⟨zs,e',a,q⟩:=au q;exact⟨l,b,xs,zs,rfl,rfl,cI e,cI e',a,q⟩
def A9(p:Addr)(xs:List V)(v:V)(H:Hp)(Q:Hp->Prop):Nat->Prop:=λ j=>Q (upd H p (.lst (xs.set j v)))
theorem CG(p:Addr)(xs:List V)(v:V)(H:Hp)(Q:Hp->Prop)(j:Nat):A9 p xs v H Q j=Q (upd H p (.lst (xs.set j v))):=rfl
def JL(p:Addr)(i:Int)(v:V)(H:Hp)(Q:Hp->Prop):List V->Prop:=λ xs=>aO (ixN xs.length i) (A9 p xs v H Q)
theorem FY(p:Addr)(i:Int)(v:V)(H:Hp)(Q:Hp->Prop)(xs:List V):JL p i v H Q xs=aO (ixN xs.length i) (A9 p xs v H Q):=rfl
theorem Cm(p:Addr)(i:Int)(v:V)(H:Hp)(Q:Hp->Prop):Ea (.ref p) (.int i) v H Q=aO (aD H p) (JL p i v H Q):=by
 refine propext ⟨λ h=>?_,λ h=>?_⟩
 ·obtain⟨_,xs,_,j,e1,e2,e3,e4,b⟩:=h;cases e1;cases e2;have e:aD H p=some xs:=by unfold aD;rw [e3];rfl
  rw [e]
  show aO (ixN xs.length i) _
  rw [e4];exact b
 ·obtain⟨xs,e,q⟩:=au h;obtain⟨j,e4,q⟩:=au q;exact⟨p,xs,i,j,rfl,rfl,cI e,e4,q⟩
def ur(t:Aa)(o v:V)(σ:St)(Q:St->Hp->Prop):VK:=λ i H=>t o i v H λ H3=>Q σ H3
theorem yy(t:Aa)(o v:V)(σ:St)(Q:St->Hp->Prop)(i:V)(H:Hp):ur t o v σ Q i H=t o i v H (Q σ):=rfl
def Aw(ti:TE)(t:Aa)(v:V)(σ:St)(Q:St->Hp->Prop):VK:=λ o H=>ti σ H (ur t o v σ Q)
theorem yz(ti:TE)(t:Aa)(v:V)(σ:St)(Q:St->Hp->Prop)(o:V)(H:Hp):Aw ti t v σ Q o H=ti σ H (ur t o v σ Q):=rfl
theorem GK(to ti:TE)(t:Aa)(v:V)(σ:St)(H:Hp)(Q:St->Hp->Prop):J5 to ti t v σ H Q=to σ H (Aw ti t v σ Q):=rfl
def kGT(n:Nat)(t:TGs)(σ:St)(H:Hp)(Q:St->Hp->Prop):List V->Prop:=λ xs=>xs.length=n/\t xs σ H Q
theorem IZ(n:Nat)(t:TGs)(σ:St)(H:Hp)(Q:St->Hp->Prop)(xs:List V):kGT n t σ H Q xs=(xs.length=n/\t xs σ H Q):=rfl
def qGT(n:Nat)(t:TGs):TG:=λ v σ H Q=>match v with
 | .ref a=>aO (gT H a) (kGT n t σ H Q)
 | _=>False
theorem IH(n:Nat)(t:TGs)(a:Addr)(σ:St)(H:Hp)(Q:St->Hp->Prop):qGT n t (.ref a) σ H Q=aO (gT H a) (kGT n t σ H Q):=rfl
theorem aZ{K:W.Frag}{n:Nat}{t:TGs}{v:V}{σ:St}{H:Hp}{Q:St->Hp->Prop}(h:qGT n t v σ H Q):J4 K n t v σ H Q:=by
 unfold qGT at h;split at h
 ·rename_i a;obtain⟨xs,e,hl,q⟩:=au h;exact⟨a,xs,rfl,SqT.of (oY e),hl,q⟩
 ·exact h.elim
theorem uh:OpR X (compareOp .Is) Hr:=E8
theorem yj:OpR X (compareOp .IsNot) AR:=BV
def tE(tb:TS)(D:oV):St->Hp->Prop:=λ σ H=>tb D σ H
theorem aE(tb:TS)(D:oV)(σ:St)(H:Hp):tE tb D σ H=tb D σ H:=rfl
def DQ(g:TG)(tb:TS)(D:oV)(σ:St)(J:It)(H1:Hp):Prop:=∃ W:Nat->Nat->St->Hp->Prop,(∃ m,W 0 m σ H1)/\∀ i m σ H,W i m σ H →
 (J.stop i H/\D.nx σ H)\/(J.go i H/\∃ N:St->Hp->Prop,(∀ σ' H',N σ' H'->∃ m',m' < m/\W (i+1) m' σ' H')/\∀ x H',J.yld i H x H'->g x σ H' λ σ2 H2=>tb { D with nx:=N,ct:=N,bk:=D.nx } σ2 H2)
theorem Fz(wi:TI)(g:TG)(tb:TS)(D:oV)(σ:St)(H:Hp):Jx wi g tb D σ H=wi σ H (DQ g tb D σ):=rfl
def kR1(R:It->Hp->Prop):List V->Hp->Prop:=λ vs H=>∃ j:Int,vs=[.int j]/\-(2 ^ 62)<=j/\j < 2 ^ 62/\R (Itr 0 j.toNat) H
theorem IP(R:It->Hp->Prop)(j:Int)(H:Hp):kR1 R [.int j] H=(-(2 ^ 62)<=j/\j < 2 ^ 62/\R (Itr 0 j.toNat) H):=propext ⟨λ ⟨_,e,q⟩=>by cases e;exact q,λ q=>⟨j,rfl,q⟩⟩
theorem C7(ta:TA)(σ:St)(H:Hp)(R:It->Hp->Prop):Et ta σ H R=ta σ H (kR1 R):=rfl
def tD(K:W.Frag)(a:Addr)(H:Hp)(R:It->Hp->Prop):HO->Prop:=λ o=>match o with
 | .lst _=>R (Itl K a) H
 | .frz _ (.lst _)=>R (Itl K a) H
 | .tup _=>R (Itt K a) H
 | _=>False
theorem wg(K:W.Frag)(a:Addr)(H:Hp)(R:It->Hp->Prop)(xs:List V):tD K a H R (.lst xs)=R (Itl K a) H:=rfl
theorem we(K:W.Frag)(a:Addr)(H:Hp)(R:It->Hp->Prop)(xs:List V):tD K a H R (.tup xs)=R (Itt K a) H:=rfl
def Hg(K:W.Frag)(R:It->Hp->Prop):VK:=λ x H=>match x with
 | .ref a=>aO (H a) (tD K a H R)
 | _=>False
theorem Gm(K:W.Frag)(R:It->Hp->Prop)(a:Addr)(H:Hp):Hg K R (.ref a) H=aO (H a) (tD K a H R):=rfl
def J3(K:W.Frag)(tl:TE):TI:=λ σ H R=>tl σ H (Hg K R)
theorem GJ(K:W.Frag)(tl:TE)(σ:St)(H:Hp)(R:It->Hp->Prop):J3 K tl σ H R=tl σ H (Hg K R):=rfl
theorem EX{tg l:Expr}{tl:TE}(hl:PE X l tl):PI X tg l (J3 X.K tl):=by
 intro pins s σ H R I h;refine thn (hl pins s σ H _ I h) λ v s1 ⟨x,H1,I1,r1,q1⟩=>?_;unfold Hg at q1;split at q1
 ·rename_i a;cases r1;obtain⟨o,e,q⟩:=au q1
  have fp:∀ b∈[s1.heap.objs.size],ny X pins H1 b:=λ b hb=>by
   have e:b=s1.heap.objs.size:=by simpa using hb
   subst e;exact I1.fpOk (K3 _) (I1.hok.fresh (K3 _))
  have lst:∀ xs,SqL X.K H1 a xs->R (Itl X.K a) H1->wpAny (model X.prog X.w) X.A (pyIter (.ref a)) (PIE X pins σ tg R) X.xe s1:=λ xs hq q=>by
   obtain⟨its,rv,p,hz⟩:=I1.list hq;refine Nv p.isList ?_;exact⟨s1.heap.objs.size,[s1.heap.objs.size],_,_,H1,rfl,I1.kept (t':=s1.toks) λ b o e=>KY _ e,vw a _,⟨_,La _ rfl,rfl,rfl⟩,fp,q⟩
  unfold tD at q;split at q
  ·exact lst _ (SqL.of e) q
  ·exact lst _ (.inl (.inr ⟨_,e⟩)) q
  ·obtain⟨its,rv,p,hz⟩:=I1.tuple (SqT.of e);refine wpAny_pyIter_tuple (show s1.heap.IsTuple a its.toArray from p) ?_;exact⟨s1.heap.objs.size,[s1.heap.objs.size],_,_,H1,rfl,I1.kept (t':=s1.toks) λ b o e=>KY _ e,qM a _,⟨_,La _ rfl,rfl,rfl⟩,fp,q⟩
  ·exact q.elim
 ·exact q1.elim
theorem kd{lo:Int}{n:Nat}{g:TG}{tb:TS}{nx:St->Hp->Prop}{rt:VK}{bk ct:St->Hp->Prop}{σ:St}{H:Hp}(Pv:Nat->St->Hp->Prop)(h0:Pv 0 σ H)
  (hs:∀ i σ H,i < n->Pv i σ H->g (.int (lo+i)) σ H (tE tb ⟨Pv (i+1),rt,nx,Pv (i+1)⟩)) (hd:∀ σ H,Pv n σ H->nx σ H):DQ g tb ⟨nx,rt,bk,ct⟩ σ (Itr lo n) H:=wW Pv h0 hs hd
theorem ed{K:W.Frag}{a:Addr}{xs:List V}{g:TG}{tb:TS}{nx:St->Hp->Prop}{rt:VK}{bk ct:St->Hp->Prop}{σ:St}{H:Hp}(Pv:Nat->St->Hp->Prop)(h0:Pv 0 σ H)(hl:∀ i σ H,i<=xs.length->Pv i σ H->H a=some (.lst xs))
  (hs:∀ i x σ H,xs[i]? = some x->Pv i σ H->g x σ H (tE tb ⟨Pv (i+1),rt,nx,Pv (i+1)⟩)) (hd:∀ σ H,Pv xs.length σ H->nx σ H):DQ g tb ⟨nx,rt,bk,ct⟩ σ (Itl K a) H:=zu (xs:=xs) Pv h0 (λ i σ H hi p=>SqL.of (hl i σ H hi p)) hs hd
def kWh(tb:TS)(nx:St->Hp->Prop)(rt:VK)(Pv:Nat->St->Hp->Prop)(m:Nat)(σ:St):Bool->Hp->Prop:=λ b H=>if b=true then tb ⟨λ σ' H'=>∃ m',m' < m/\Pv m' σ' H',rt,nx,λ σ' H'=>∃ m',m' < m/\Pv m' σ' H'⟩ σ H else nx σ H
theorem IL(tb:TS)(nx:St->Hp->Prop)(rt:VK)(Pv:Nat->St->Hp->Prop)(m:Nat)(σ:St)(b:Bool)(H:Hp):kWh tb nx rt Pv m σ b H=(if b=true then tb ⟨λ σ' H'=>∃ m',m' < m/\Pv m' σ' H',rt,nx,λ σ' H'=>∃ m',m' < m/\Pv m' σ' H'⟩ σ H else nx σ H):=rfl
theorem Bk{c:TT}{tb:TS}{nx:St->Hp->Prop}{rt:VK}{bk ct:St->Hp->Prop}{σ:St}{H:Hp}(Pv:Nat->St->Hp->Prop)(m0:Nat)(h0:Pv m0 σ H)
  (mono:∀ σ H Q Q',(∀ b H1,Q b H1->Q' b H1)->c σ H Q->c σ H Q')
  (hs:∀ m σ H,Pv m σ H->c σ H (kWh tb nx rt Pv m σ)):tL c tb ⟨nx,rt,bk,ct⟩ σ H:=by
 refine⟨Pv,⟨m0,h0⟩,λ m σ H p=>mono σ H _ _ (λ b H1 q=>?_) (hs m σ H p)⟩;unfold kWh at q
 cases b with
 | true=>exact⟨_,λ σ' H' z=>z,q⟩
 | false=>exact q
end
def kE4(H:Hp)(Q:VK):Bool->Prop:=λ b=>Q (.bl b) H
theorem A5(H:Hp)(Q:VK)(b:Bool):kE4 H Q b=Q (.bl b) H:=rfl
def kC3(D:Addr)(ys:List V)(N:List V->Hp->Prop):VK:=λ y H=>H D=some (.lst ys)/\ys.length < sizeLine/\N (ys++[y]) (upd H D (.lst (ys++[y])))
def kC2(te:TE)(σ2:St)(D:Addr)(ys:List V)(N:List V->Hp->Prop):Bool->Hp->Prop:=λ b H=>if b=true then te σ2 H (kC3 D ys N) else N ys H
def kC1(k:Nat)(tt:TT)(te:TE)(σ:St)(D:Addr)(ys:List V)(N:List V->Hp->Prop):St->Hp->Prop:=λ σ2 H=>(∃ vs:St,vs.length=k/\σ2=vs++σ)/\tt σ2 H (kC2 te σ2 D ys N)
theorem Ff(σ:St)(H:Hp)(Q:Bool->Hp->Prop):Jp σ H Q=Q true H:=rfl
def xE(k:Nat)(g:TG)(tt:TT)(te:TE)(σ:St)(Q:VK):It->Hp->Prop:=λ J H1=>∀ D,H1 D=none->∃ W:Nat->Nat->List V->Hp->Prop,(∃ m,W 0 m [] (upd H1 D (.lst [])))/\∀ i m ys H,W i m ys H →
 (J.stop i H/\Q (.ref D) H)\/(J.go i H/\∃ N:List V->Hp->Prop,(∀ ys' H',N ys' H'->∃ m',m' < m/\W (i+1) m' ys' H') /\
  ∀ x H',J.yld i H x H'->g x (List.replicate k none++σ) H' (kC1 k tt te σ D ys N))
theorem Ce(k:Nat)(wi:TI)(g:TG)(tt:TT)(te:TE)(σ:St)(H:Hp)(Q:VK):AM k wi g tt te σ H Q=wi σ H (xE k g tt te σ Q):=rfl
def En(i:Nat)(σ:St)(nx:St->Hp->Prop):VK:=λ x H=>cq i x σ H nx
theorem CC(i:Nat)(σ:St)(nx:St->Hp->Prop)(x:V)(H:Hp):En i σ nx x H=cq i x σ H nx:=rfl
theorem B8(i:Nat)(te:TE)(nx:St->Hp->Prop)(rt:VK)(bk ct:St->Hp->Prop)(σ:St)(H:Hp):DW i te ⟨nx,rt,bk,ct⟩ σ H=te σ H (En i σ nx):=rfl
section
variable {k:Nat}{g:TG}{tt:TT}{te:TE}{σ:St}{Q:VK}{H:Hp}{K:PySem.W.Frag}
end
def aR{α:Type}:List (Option α)->Option (List α)
 | []=>some []
 | o::r=>o.bind λ x=>(aR r).map λ xs=>x::xs
def zX(f:V->Option PyData):HO->Option PyData
 | .lst xs=>(aR (xs.map f)).map .list
 | .tup xs=>(aR (xs.map f)).map .tuple
 | _=>none
def eS(H:Hp)(f:V->Option PyData):V->Option PyData
 | .non=>some .none
 | .bl b=>some (.bool b)
 | .int i=>some (.int i)
 | .str z=>if PyData.strOk z=true then some (.str z) else none
 | .ref p=>(H p).bind (zX f)
 | _=>none
def i0(H:Hp):Nat->V->Option PyData
 | 0,_=>none
 | n+1,x=>eS H (i0 H n) x
def noD:V->Option PyData:=λ _=>none
theorem GL(H:Hp)(x:V):i0 H 6 x=eS H (eS H (eS H (eS H (eS H (eS H noD))))) x:=rfl
theorem rA(H:Hp)(n:Nat)(z:Str):i0 H (n+1) (.str z)=if PyData.strOk z=true then some (.str z) else none:=rfl
theorem rB(H:Hp)(n:Nat)(p:Addr):i0 H (n+1) (.ref p)=(H p).bind (zX (i0 H n)):=rfl
theorem rD(H:Hp)(f:V->Option PyData)(i:Int):eS H f (.int i)=some (.int i):=rfl
theorem rC(H:Hp)(f:V->Option PyData)(z:Str):eS H f (.str z)=if PyData.strOk z=true then some (.str z) else none:=rfl
theorem gf(H:Hp)(f:V->Option PyData)(p:Addr):eS H f (.ref p)=(H p).bind (zX f):=rfl
theorem gd(f:V->Option PyData)(xs:List V):zX f (.lst xs)=(aR (xs.map f)).map .list:=rfl
theorem gc(f:V->Option PyData)(xs:List V):zX f (.tup xs)=(aR (xs.map f)).map .tuple:=rfl
theorem lr{α:Type}:aR ([]:List (Option α))=some []:=rfl
theorem da{α:Type}(x:α)(r:List (Option α)):aR (some x::r)=(aR r).map λ xs=>x::xs:=rfl
theorem gw(H:Hp)(f:V->Option PyData):∀ ns:List Int,aR ((ns.map V.int).map (eS H f))=some (ns.map PyData.int)
 | []=>rfl
 | i::r=>by
  show (aR ((r.map V.int).map (eS H f))).map _=_
  rw [gw H f r];rfl
theorem kM{K:W.Frag}{H:Hp}{n:Nat}(ih:∀ x d,i0 H n x=some d->jP K H x d/\d.canLay0=true/\d.depth<=n):∀ (xs:List V) (ds:List PyData),aR (xs.map (i0 H n))=some ds->gU K H xs ds/\PyData.canLayAll0 ds=true/\PyData.depthAll ds<=n
 | [],ds,h=>by cases h;exact⟨.nil,rfl,LJ _⟩
 | x::xs,ds,h=>by
  have h':(i0 H n x).bind (λ d=>(aR (xs.map (i0 H n))).map λ ds=>d::ds)=some ds:=h
  cases e:i0 H n x with
  | none=>rw [e] at h';cases h'
  | some d=>
   rw [e] at h';have h2:(aR (xs.map (i0 H n))).map (λ ds=>d::ds)=some ds:=h'
   cases e2:aR (xs.map (i0 H n)) with
   | none=>rw [e2] at h2;cases h2
   | some es=>
    rw [e2] at h2;cases h2;obtain⟨a,b,c⟩:=ih x d e;obtain⟨a',b',c'⟩:=kM ih xs es e2;exact⟨.cons a a',by simp [PyData.canLayAll0,b,b'],by simp only [PyData.depthAll];omega⟩
theorem oo{K:W.Frag}{H:Hp}:∀ (n:Nat) (x:V) (d:PyData),i0 H n x=some d->jP K H x d/\d.canLay0=true/\d.depth<=n
 | 0,x,d,h=>by cases h
 | n+1,x,d,h=>by
  cases x with
  | non=>cases h;exact⟨.non,rfl,LJ _⟩
  | bl b=>cases h;exact⟨.bl b,rfl,LJ _⟩
  | int i=>cases h;exact⟨.int i,rfl,LJ _⟩
  | str z=>
   rw [rA] at h;split at h
   ·rename_i hz;cases h;exact⟨.str z,by simpa [PyData.canLay0] using hz,LJ _⟩
   ·cases h
  | ref p=>
   rw [rB] at h
   cases e:H p with
   | none=>rw [e] at h;cases h
   | some o=>
    rw [e] at h;have h':zX (i0 H n) o=some d:=h
    cases o with
    | lst xs=>
     rw [gd] at h'
     cases e2:aR (xs.map (i0 H n)) with
     | none=>rw [e2] at h';cases h'
     | some ds=>
      rw [e2] at h';cases h';obtain⟨a,b,c⟩:=kM (K:=K) (oo n) xs ds e2;exact⟨.lst (SqL.of e) a,by simpa [PyData.canLay0] using b,by simp only [PyData.depth];omega⟩
    | tup xs=>
     rw [gc] at h'
     cases e2:aR (xs.map (i0 H n)) with
     | none=>rw [e2] at h';cases h'
     | some ds=>
      rw [e2] at h';cases h';obtain⟨a,b,c⟩:=kM (K:=K) (oo n) xs ds e2;exact⟨.tup (SqT.of e) a,by simpa [PyData.canLay0] using b,by simp only [PyData.depth];omega⟩
    | _=>cases h'
  | _=>cases h
theorem dG{K:W.Frag}{H:Hp}{n:Nat}{x:V}{d:PyData}(hn:n<=64)(h:i0 H n x=some d):jP K H x d/\SeqAt.shaped d=true:=by
 obtain⟨a,b,c⟩:=oo (K:=K) n x d h;refine⟨a,?_⟩;unfold SeqAt.shaped;rw [b,decide_eq_true (show d.depth<=64 by omega)];rfl
def Hh(neg:Bool)(H:Hp)(Q:VK)(d:PyData):PyData->Prop:=λ e=>Q (.bl (if neg=true then !PyData.eqv d e else PyData.eqv d e)) H
theorem yA(H:Hp)(Q:VK)(d e:PyData):Hh true H Q d e=Q (.bl (!PyData.eqv d e)) H:=rfl
theorem yB(H:Hp)(Q:VK)(d e:PyData):Hh false H Q d e=Q (.bl (PyData.eqv d e)) H:=rfl
def HK(neg:Bool)(y:V)(H:Hp)(Q:VK):PyData->Prop:=λ d=>aO (i0 H 6 y) (Hh neg H Q d)
theorem Gq(neg:Bool)(y:V)(H:Hp)(Q:VK)(d:PyData):HK neg y H Q d=aO (i0 H 6 y) (Hh neg H Q d):=rfl
def qEq(neg:Bool):R2:=λ x y H Q=>if DM x y=true then Q (.bl (if neg=true then !decide (x=y) else decide (x=y))) H else aO (i0 H 6 x) (HK neg y H Q)
theorem rm(neg:Bool)(p:Addr)(x:V)(H:Hp)(Q:VK):qEq neg x (.ref p) H Q=aO (i0 H 6 x) (HK neg (.ref p) H Q):=by
 show (if DM x (.ref p)=true then _ else _)=_
 rw [K5 (by cases x<;>exact Lg)]
theorem lq(i:Int)(j:Int)(H:Hp)(Q:VK):qEq false (V.int i) (V.int j) H Q=Q (.bl (decide (i=j))) H:=by
 have e:decide (((V.int i):V)=(V.int j))=decide (i=j):=by simp
 show Q (.bl (if false=true then !decide ((V.int i)=(V.int j)) else decide ((V.int i)=(V.int j)))) H=_
 rw [e];rfl
theorem lj(i:Int)(j:Int)(H:Hp)(Q:VK):qEq true (V.int i) (V.int j) H Q=Q (.bl (!decide (i=j))) H:=by
 have e:decide (((V.int i):V)=(V.int j))=decide (i=j):=by simp
 show Q (.bl (if true=true then !decide ((V.int i)=(V.int j)) else decide ((V.int i)=(V.int j)))) H=_
 rw [e];rfl
theorem ll(i:Str)(j:Str)(H:Hp)(Q:VK):qEq false (V.str i) (V.str j) H Q=Q (.bl (decide (i=j))) H:=by
 have e:decide (((V.str i):V)=(V.str j))=decide (i=j):=by simp
 show Q (.bl (if false=true then !decide ((V.str i)=(V.str j)) else decide ((V.str i)=(V.str j)))) H=_
 rw [e];rfl
theorem lh(i:Str)(j:Str)(H:Hp)(Q:VK):qEq true (V.str i) (V.str j) H Q=Q (.bl (!decide (i=j))) H:=by
 have e:decide (((V.str i):V)=(V.str j))=decide (i=j):=by simp
 show Q (.bl (if true=true then !decide ((V.str i)=(V.str j)) else decide ((V.str i)=(V.str j)))) H=_
 rw [e];rfl
section
variable {X:Cx}
theorem cg(hu:X.A.units+64 < cLine):OpR X (compareOp .Eq) (qEq false):=by
 refine(Ip.or (E9 hu)).mono λ x y H Q h=>?_;unfold qEq at h;split at h
 ·rename_i hs;exact .inl ⟨hs,h⟩
 obtain⟨d,e1,h⟩:=au h;obtain⟨e,e2,h⟩:=au h;obtain⟨a,b⟩:=dG (K:=X.K) (by decide) e1;obtain⟨a',b'⟩:=dG (K:=X.K) (by decide) e2;exact .inr ⟨d,e,a,a',b,b',h⟩
theorem cH(hu:X.A.units+64 < cLine):OpR X (compareOp .NotEq) (qEq true):=by
 refine(Il.or (E7 hu)).mono λ x y H Q h=>?_;unfold qEq at h;split at h
 ·rename_i hs;exact .inl ⟨hs,h⟩
 obtain⟨d,e1,h⟩:=au h;obtain⟨e,e2,h⟩:=au h;obtain⟨a,b⟩:=dG (K:=X.K) (by decide) e1;obtain⟨a',b'⟩:=dG (K:=X.K) (by decide) e2;exact .inr ⟨d,e,a,a',b,b',h⟩
end
theorem Dw(i j:Str):PyData.eqv (.str i) (.str j)=(i == j):=rfl
theorem wY(xs ys:List PyData):PyData.eqv (.tuple xs) (.tuple ys)=PyData.eqvAll xs ys:=by simp only [PyData.eqv]
theorem zw(xs ys:List PyData):PyData.eqv (.list xs) (.list ys)=PyData.eqvAll xs ys:=by simp only [PyData.eqv]
theorem rV:PyData.eqvAll [] []=true:=by simp only [PyData.eqvAll]
theorem oK(x y:PyData)(xs ys:List PyData):PyData.eqvAll (x::xs) (y::ys)=(PyData.eqv x y && PyData.eqvAll xs ys):=by simp only [PyData.eqvAll]
theorem zx(x:PyData)(xs:List PyData):PyData.eqvAll (x::xs) []=false:=by simp only [PyData.eqvAll]
theorem DF(i j:Int):Ic i j=(0 < j/\j < 1073741824):=rfl
theorem G8(i j:Int)(h:-18446744073709551616 < i)(h':i < 18446744073709551616):gS i j=True:=eq_true (.inl ⟨by omega,by omega⟩)
theorem DE(j:Int):Ib 10 j=(0<=j/\j<=1000000):=propext ⟨λ h=>⟨h.1,h.2.1⟩,λ h=>⟨h.1,h.2,by decide⟩⟩
theorem Jb(n:Nat)(h:n<=1000):(n<=sizeLine)=True:=eq_true (M7 (vz h))
theorem Ext.of{H H':Hp}(h:∀ a,(H a).isSome=true->H' a=H a):Ext H H':=⟨h,λ K a xs q=>by
 have s:dS H H':=λ b o e=>(h b (by rw [e];rfl)).trans e;exact s.seq q⟩
theorem Ext.same{H H':Hp}(h:Ext H H'):dS H H':=λ b o e=>(h.1 b (by rw [e];rfl)).trans e
theorem dS.ext{H H':Hp}(h:dS H H'):Ext H H':=Ext.of λ a q=>by
 cases e:H a with
 | none=>rw [e] at q;cases q
 | some o=>exact h a o e
theorem Ext.refl(H:Hp):Ext H H:=(dS.refl H).ext
theorem Ext.trans{H H1 H2:Hp}(a:Ext H H1)(b:Ext H1 H2):Ext H H2:=(a.same.trans b.same).ext
theorem Ext.new{H:Hp}{p:Addr}{o:HO}(h:H p=none):Ext H (upd H p o):=(xU h).ext
theorem Ext.put{H H1:Hp}{p:Addr}{o:HO}(a:Ext H H1)(h:H p=none):Ext H (upd H1 p o):=dS.ext λ b u e=>by
 rw [ae (bI e h)];exact a.same b u e
theorem Ext.free{H H1:Hp}{p:Addr}(a:Ext H H1)(h:H1 p=none):H p=none:=a.same.free h
theorem Ext.at{H H1:Hp}{p:Addr}{o:HO}(a:Ext H H1)(h:H p=some o):H1 p=some o:=a.same _ _ h
theorem BU{xs:List V}{i:Int}{k:V->Prop}(h0:0<=i)(h1:i < xs.length)(h:∀ v∈xs,k v):aO (atI xs i) k:=by
 obtain⟨v,e,m⟩:=AB xs i h0 h1;rw [e];exact h v m
theorem KJ(CX:CXT)(P:Program)(w:World)(K:W.Frag)(mg:Str->Option Value)(base:Heap)(N:List Str)(qual:Str)(scope:Scope)(f:Addr)(cd:Value)(A:Around)(outer:List Env)(s:Shared)(H:Hp)(E:XK):(zY CX P w K mg base N qual scope f cd A outer s H E).K=K:=rfl
def isW(H:Hp):V->Option Bool
 | .int _=>some true
 | .bl _=>some false
 | .non=>some false
 | .str _=>some false
 | .ref p=>((H p).bind tyO).map λ _=>false
 | _=>none
theorem y9(H:Hp)(i:Int):isW H (.int i)=some true:=rfl
theorem y8(H:Hp)(p:Addr):isW H (.ref p)=((H p).bind tyO).map λ _=>false:=rfl
theorem uW{H:Hp}{p:Addr}{b:Bool}(h:isW H (.ref p)=some b):b=false/\∃ o,H p=some o/\(tyO o=some "list" \/ tyO o=some "tuple" \/ tyO o=some "dict"):=by
 rw [y8] at h
 cases e:H p with
 | none=>rw [e] at h;cases h
 | some o=>
  rw [e] at h;have h':(tyO o).map (λ _=>false)=some b:=h
  cases e2:tyO o with
  | none=>rw [e2] at h';cases h'
  | some t=>
   rw [e2] at h';cases h';refine⟨rfl,o,rfl,?_⟩
   cases o with
   | lst xs=>exact .inl rfl
   | tup xs=>exact .inr (.inl rfl)
   | dK xs=>exact .inr (.inr rfl)
   | dT xs=>exact .inr (.inr rfl)
   | frz ob u=>cases u with
    | lst xs=>exact .inl rfl
    | _=>cases e2
   | _=>cases e2
def ME(t:TE):Prop:=∀ σ H (Q Q':VK),(∀ v H,Q v H->Q' v H)->t σ H Q->t σ H Q'
def MT(t:TT):Prop:=∀ σ H (Q Q':Bool->Hp->Prop),(∀ b H,Q b H->Q' b H)->t σ H Q->t σ H Q'
def MA(t:TA):Prop:=∀ σ H (Q Q':List V->Hp->Prop),(∀ b H,Q b H->Q' b H)->t σ H Q->t σ H Q'
def MR(r:R2):Prop:=∀ x y H (Q Q':VK),(∀ v H,Q v H->Q' v H)->r x y H Q->r x y H Q'
def MC(r:List V->Hp->VK->Prop):Prop:=∀ x H (Q Q':VK),(∀ v H,Q v H->Q' v H)->r x H Q->r x H Q'
theorem b6{α:Type}{o:Option α}{k k':α->Prop}(m:∀ x,k x->k' x)(h:aO o k):aO o k':=by
 obtain⟨x,e,q⟩:=au h;rw [e];exact m x q
theorem o9{i:Nat}:ME (G9 i):=λ σ H Q Q' m ⟨v,e,q⟩=>⟨v,e,m _ _ q⟩
theorem HA{v:V}:ME (tC v):=λ σ H Q Q' m q=>m _ _ q
theorem A3{r:R2}{a b:TE}(hr:MR r)(ha:ME a)(hb:ME b):ME (tOp r a b):=λ σ H Q Q' m q=>ha σ H _ _ (λ _ _ q=>hb σ _ _ _ (λ _ _ q=>hr _ _ _ _ _ m q) q) q
theorem pd{g:Int->Int->V}:MR (rI0 g):=λ x y H Q Q' m ⟨i,j,e,e',q⟩=>⟨i,j,e,e',m _ _ q⟩
theorem uk{n:Bool}:MR (qEq n):=λ x y H Q Q' m q=>by
 unfold qEq at q ⊢
 by_cases hs:DM x y=true
 ·rw [K7 hs] at q ⊢;exact m _ _ q
 ·rw [K5 hs] at q ⊢;exact b6 (λ _ q=>b6 (λ _ q=>m _ _ q) q) q
theorem um:MA DK:=λ σ H Q Q' m q=>m _ _ q
theorem oa{a:TE}{r:TA}(ha:ME a)(hr:MA r):MA (sU a r):=λ σ H Q Q' m q=>ha σ H _ _ (λ _ _ q=>hr σ _ _ _ (λ _ _ q=>m _ _ q) q) q
theorem A4{r:List V->Hp->VK->Prop}{t:TA}(hr:MC r)(ht:MA t):ME (tCB r t):=λ σ H Q Q' m q=>ht σ H _ _ (λ _ _ q=>hr _ _ _ _ m q) q
theorem nZ:MC DN:=λ x H Q Q' m q=>by
 unfold DN at q ⊢;split at q
 ·exact b6 (λ _ q=>m _ _ q) q
 ·exact⟨q.1,m _ _ q.2⟩
 ·exact q.elim
theorem j7{t:TE}(h:ME t):MT (xx t):=λ σ H Q Q' m q=>h σ H _ _ (λ _ _ ⟨k,e,q⟩=>⟨k,e,m _ _ q⟩) q
theorem nB{c:TT}{tb:TS}{nx:St->Hp->Prop}{rt:VK}{bk ct:St->Hp->Prop}{σ:St}{H:Hp}(mono:MT c)(Pv:Nat->St->Hp->Prop)(m0:Nat)(h0:Pv m0 σ H)
  (hs:∀ m σ H,Pv m σ H->c σ H (kWh tb nx rt Pv m σ)):tL c tb ⟨nx,rt,bk,ct⟩ σ H:=Bk Pv m0 h0 (λ σ H Q Q'=>mono σ H Q Q') hs
theorem p5:∀ {ns ms:List Int},ns.map V.int=ms.map V.int->ns=ms
 | [],[],_=>rfl
 | [],_::_,h=>by cases h
 | _::_,[],h=>by cases h
 | i::r,j::t,h=>by
  simp only [LG,List.cons.injEq,V.int.injEq] at h;rw [h.1,p5 h.2]
def Bc(F:List Int->Prop):List V->Prop:=λ xs=>∃ ns,xs=ns.map V.int/\F ns
theorem CN(F:List Int->Prop)(ns:List Int):Bc F (ns.map V.int)=F ns:=propext ⟨λ ⟨ms,e,h⟩=>by rw [p5 e];exact h,λ h=>⟨ns,rfl,h⟩⟩
theorem zF(xs:List V)(z:Int)(h:0<=z):jg xs none (some z)=xs.take z.toNat:=by
 unfold jg;rw [HT.sIx_none,List.drop_zero,Nat.sub_zero];obtain⟨n,rfl⟩:=Int.eq_ofNat_of_zero_le h;rw [HT.sIx_nat]
 show _=xs.take n
 rcases NY n xs.length with q|q
 ·rw [NB q]
 ·rw [Nn q,Ma (K3 _),Ma q]
def KG(lo hi:Option Int)(H:Hp)(Q:VK):List V->Prop:=λ xs=>∀ p,H p=none->Q (.ref p) (upd H p (.lst (jg xs lo hi)))
def JF:V->Option Int->Option Int->Hp->VK->Prop:=λ x lo hi H Q=>match x with
 | .ref a=>aO (aD H a) (KG lo hi H Q)
 | _=>False
theorem Km{X:Cx}:SlR X JF:=By.mono λ x lo hi H Q h=>by
 unfold JF at h;split at h
 ·rename_i a;obtain⟨xs,e,q⟩:=au h;exact⟨a,xs,rfl,SqL.of (cI e),q⟩
 ·exact h.elim
def HC(r:V->Option Int->Option Int->Hp->VK->Prop)(x:V)(l:Option Int)(Q:VK):Option Int->Hp->Prop:=λ u H=>r x l u H Q
theorem FV(r:V->Option Int->Option Int->Hp->VK->Prop)(x:V)(l:Option Int)(Q:VK)(u:Option Int)(H:Hp):HC r x l Q u H=r x l u H Q:=rfl
def HD(r:V->Option Int->Option Int->Hp->VK->Prop)(th:TO)(σ:St)(x:V)(Q:VK):Option Int->Hp->Prop:=λ l H=>th σ H (HC r x l Q)
theorem FW(r:V->Option Int->Option Int->Hp->VK->Prop)(th:TO)(σ:St)(x:V)(Q:VK)(l:Option Int)(H:Hp):HD r th σ x Q l H=th σ H (HC r x l Q):=rfl
def JK(r:V->Option Int->Option Int->Hp->VK->Prop)(tl th:TO)(σ:St)(Q:VK):VK:=λ x H=>tl σ H (HD r th σ x Q)
theorem FX(r:V->Option Int->Option Int->Hp->VK->Prop)(tl th:TO)(σ:St)(Q:VK)(x:V)(H:Hp):JK r tl th σ Q x H=tl σ H (HD r th σ x Q):=rfl
theorem IA(r:V->Option Int->Option Int->Hp->VK->Prop)(te:TE)(tl th:TO)(σ:St)(H:Hp)(Q:VK):tSl r te tl th σ H Q=te σ H (JK r tl th σ Q):=rfl
theorem vN(σ:St)(H:Hp)(Q:Option Int->Hp->Prop):uA σ H Q=Q none H:=rfl
def Eo(Q:Option Int->Hp->Prop):VK:=λ x H=>∃ i,x=.int i/\Q (some i) H
theorem CI(Q:Option Int->Hp->Prop)(i:Int)(H:Hp):Eo Q (.int i) H=Q (some i) H:=propext ⟨λ ⟨_,e,q⟩=>by cases e;exact q,λ q=>⟨i,rfl,q⟩⟩
theorem B9(t:TE)(σ:St)(H:Hp)(Q:Option Int->Hp->Prop):DX t σ H Q=t σ H (Eo Q):=rfl
def gy(o:HO)(H:Hp)(Q:VK):Prop:=∀ (p:Addr) (H':Hp),H p=none->Ext H H'->H' p=some o->Q (.ref p) H'
theorem gy.to{o:HO}{H:Hp}{Q:VK}(h:gy o H Q):∀ p,H p=none->Q (.ref p) (upd H p o):=λ p hp=>h p _ hp (Ext.new hp) ah
def kQT(Q:VK):List V->Hp->Prop:=λ xs H=>xs.length<=sizeLine/\gy (.tup xs) H Q
theorem IQ(Q:VK)(xs:List V)(H:Hp):kQT Q xs H=(xs.length<=sizeLine/\gy (.tup xs) H Q):=rfl
def kQL(Q:VK):List V->Hp->Prop:=λ xs H=>xs.length<=sizeLine/\gy (.lst xs) H Q
theorem IS(Q:VK)(xs:List V)(H:Hp):kQL Q xs H=(xs.length<=sizeLine/\gy (.lst xs) H Q):=rfl
def JE(t:TA):TE:=λ σ H Q=>t σ H (kQT Q)
theorem FH(t:TA)(σ:St)(H:Hp)(Q:VK):JE t σ H Q=t σ H (kQT Q):=rfl
def JG(t:TA):TE:=λ σ H Q=>t σ H (kQL Q)
theorem FL(t:TA)(σ:St)(H:Hp)(Q:VK):JG t σ H Q=t σ H (kQL Q):=rfl
section
variable {X:Cx}{es:List Expr}{t:TA}{pos:Pos}
theorem BJ{x1}(h:PA X es t):PE X (.Tuple es x1 pos) (JE t):=by
 intro pins s σ H Q I hq;refine wpAny_Tuple_spliced (thn (h pos pins s σ H _ I hq) λ us s1 ⟨xs,H1,I1,r,z,q⟩=>⟨by rw [←r.length];exact z,?_⟩);have hf:H1 s1.heap.objs.size=none:=I1.hok.fresh (K3 _);refine⟨.ref s1.heap.objs.size,upd H1 s1.heap.objs.size (.tup xs),I1.laid (t':=s1.toks) (λ b u e=>KY _ e) (K3 _) ?_,rfl,q.to _ hf⟩;exact⟨z,us,r,⟨_,La _ rfl,rfl,_,rfl⟩⟩
theorem BK(h:PA X es t):PE X (.List es pos) (JG t):=by
 intro pins s σ H Q I hq;refine wpAny_List_spliced (thn (h pos pins s σ H _ I hq) λ us s1 ⟨xs,H1,I1,r,z,q⟩=>⟨by rw [←r.length];exact z,?_⟩);have hf:H1 s1.heap.objs.size=none:=I1.hok.fresh (K3 _);refine⟨.ref s1.heap.objs.size,upd H1 s1.heap.objs.size (.lst xs),I1.laid (t':=s1.toks) (λ b u e=>KY _ e) (K3 _) ?_,rfl,q.to _ hf⟩;exact⟨z,us,0,r,La _ rfl⟩
end
def kN(f:List V->HO)(H:Hp)(Q:VK):List V->Prop:=λ ys=>gy (f ys) H Q
theorem Kz(f:List V->HO)(H:Hp)(Q:VK)(ys:List V):kN f H Q ys=gy (f ys) H Q:=rfl
def AY(xs:List V)(H:Hp)(Q:VK):Prop:=match xs with
 | [.ref p]=>aO (cX H p) (kN .lst H Q)
 | _=>False
theorem Cs(p:Addr)(H:Hp)(Q:VK):AY [.ref p] H Q=aO (cX H p) (kN .lst H Q):=rfl
theorem jx{X:Cx}:bK X (.type "list") AY:=si.mono λ xs H Q h=>by
 unfold AY at h;split at h
 ·exact b6 (λ _ q=>q.to) h
 ·exact h.elim
def kNT(p:Addr)(H:Hp)(Q:VK):HO->Prop:=λ o=>match o with
 | .lst ys=>gy (.tup ys) H Q
 | .tup _=>Q (.ref p) H
 | _=>False
theorem CK(p:Addr)(H:Hp)(Q:VK)(ys:List V):kNT p H Q (.lst ys)=gy (.tup ys) H Q:=rfl
def ui(xs:List V)(H:Hp)(Q:VK):Prop:=match xs with
 | [.ref p]=>aO (H p) (kNT p H Q)
 | _=>False
theorem yu(p:Addr)(H:Hp)(Q:VK):ui [.ref p] H Q=aO (H p) (kNT p H Q):=rfl
theorem iN{X:Cx}:bK X (.type "tuple") ui:=oN.mono λ xs H Q h=>by
 unfold ui at h;split at h
 ·refine b6 (λ o q=>?_) h;unfold kNT at q;unfold A6;split at q
  ·exact q.to
  ·exact q
  ·exact q.elim
 ·exact h.elim
def He(xs:List V)(H:Hp)(Q:VK):List V->Prop:=λ ys=>xs.length+ys.length<=sizeLine/\gy (.lst (xs++ys)) H Q
theorem Gf(xs:List V)(H:Hp)(Q:VK)(ys:List V):He xs H Q ys=(xs.length+ys.length<=sizeLine/\gy (.lst (xs++ys)) H Q):=rfl
def HF(b:Addr)(H:Hp)(Q:VK):List V->Prop:=λ xs=>aO (aD H b) (He xs H Q)
theorem Gg(b:Addr)(H:Hp)(Q:VK)(xs:List V):HF b H Q xs=aO (aD H b) (He xs H Q):=rfl
def Hc:R2:=λ x y H Q=>match x,y with
 | .ref l,.ref b=>aO (aD H l) (HF b H Q)
 | _,_=>False
theorem As(l b:Addr)(H:Hp)(Q:VK):Hc (.ref l) (.ref b) H Q=aO (aD H l) (HF b H Q):=rfl
theorem fM{X:Cx}:OpR X (binaryOp .Add) Hc:=Fb.mono λ x y H Q h=>by
 unfold Hc at h;split at h
 ·rw [FG];exact b6 (λ _ q=>b6 (λ _ q=>⟨q.1,q.2.to⟩) q) h
 ·exact h.elim
def kNS(lo hi:Option Int)(H:Hp)(Q:VK):List V->Prop:=λ xs=>gy (.lst (jg xs lo hi)) H Q
theorem IV(lo hi:Option Int)(H:Hp)(Q:VK)(xs:List V):kNS lo hi H Q xs=gy (.lst (jg xs lo hi)) H Q:=rfl
def nSl:V->Option Int->Option Int->Hp->VK->Prop:=λ x lo hi H Q=>match x with
 | .ref a=>aO (aD H a) (kNS lo hi H Q)
 | _=>False
theorem II(a:Addr)(lo hi:Option Int)(H:Hp)(Q:VK):nSl (.ref a) lo hi H Q=aO (aD H a) (kNS lo hi H Q):=rfl
theorem DH{X:Cx}:SlR X nSl:=Km.mono λ x lo hi H Q h=>by
 unfold nSl at h;split at h
 ·exact b6 (λ _ q=>q.to) h
 ·exact h.elim
theorem PE.mono{X:Cx}{e:Expr}{t t':TE}(h:PE X e t)(m:∀ σ H Q,t' σ H Q->t σ H Q):PE X e t':=λ pins s σ H Q I q=>h pins s σ H Q I (m _ _ _ q)
def El:TE:=λ _ H Q=>gy (.dK []) H Q
theorem Ct(σ:St)(H:Hp)(Q:VK):El σ H Q=gy (.dK []) H Q:=rfl
theorem gJ{X:Cx}{pos:Pos}:PE X (.Dict [] [] pos) El:=yf.mono λ _ _ _ h=>h.to
section
variable {prog:Program}{w:World}{A:Around}{E:Value->Shared->Prop}{s:Shared}
end
section
variable {X:Cx}{pos:Pos}
end
section
variable {X:Cx}{tg:Expr}
end
theorem iG:∀ (n:Nat) (ns:List Int) (val:Nat->Int),(∀ i,val i=ns.getD i 0)->n<=ns.length->preSum val n=(ns.take n).sum
 | 0,ns,val,h,hl=>by simp [preSum]
 | n+1,ns,val,h,hl=>by
  have ih:=iG n ns val h (by omega)
  have e:ns.take (n+1)=ns.take n++[ns.getD n 0]:=by
   rw [List.take_succ,KU (by omega)];simp [List.getD,KU (show n < ns.length by omega)]
  rw [preSum,ih,e,List.sum_append,h];simp
def A7(H:Hp)(Q:VK):List Int->Prop:=λ ns=>Q (.int ns.sum) H
theorem CA(H:Hp)(Q:VK)(ns:List Int):A7 H Q ns=Q (.int ns.sum) H:=rfl
def Hs:List V->Hp->VK->Prop:=λ vs H Q=>match vs with
 | [.ref p]=>aO (aD H p) (Bc (A7 H Q))
 | _=>False
theorem FI(p:Addr)(H:Hp)(Q:VK):Hs [.ref p] H Q=aO (aD H p) (Bc (A7 H Q)):=rfl
def HU(F:List Bool->Prop):List V->Prop:=λ xs=>∃ bs,xs=bs.map V.bl/\F bs
theorem vh:∀ {ns ms:List Bool},ns.map V.bl=ms.map V.bl->ns=ms
 | [],[],_=>rfl
 | [],_::_,h=>by cases h
 | _::_,[],h=>by cases h
 | i::r,j::t,h=>by
  simp only [LG,List.cons.injEq,V.bl.injEq] at h;rw [h.1,vh h.2]
theorem Gz(F:List Bool->Prop)(bs:List Bool):HU F (bs.map V.bl)=F bs:=propext ⟨λ ⟨ms,e,h⟩=>by rw [vh e];exact h,λ h=>⟨bs,rfl,h⟩⟩
def Bf(H:Hp)(Q:VK):List Bool->Prop:=λ bs=>Q (.bl (bs.all id)) H
theorem C6(H:Hp)(Q:VK)(bs:List Bool):Bf H Q bs=Q (.bl (bs.all id)) H:=rfl
def Hv:List V->Hp->VK->Prop:=λ vs H Q=>match vs with
 | [.ref p]=>aO (aD H p) (HU (Bf H Q))
 | _=>False
theorem FO(p:Addr)(H:Hp)(Q:VK):Hv [.ref p] H Q=aO (aD H p) (HU (Bf H Q)):=rfl
section
variable {X:Cx}
theorem cv(hc:X.calm=true):bK X (.builtin "sum") Hs:=by
 intro pins s σ H vs us Q I r h;unfold Hs at h;split at h
 ·rename_i p;obtain⟨xs,e,ns,rfl,q⟩:=au h
  cases r with
  | cons r rr=>
   cases rr;cases r;obtain⟨its,rv,pl,hz⟩:=I.list (SqL.of (cI e));have hlt:p < s.heap.objs.size:=by obtain⟨_,e,_⟩:=pl.isList;exact K6 e
   have hlen:its.length=ns.length:=by have:=rv.length;simpa using this.symm
   refine call_sum_walkAnyS (Nv pl.isList ⟨s.heap.objs.size,_,_,_,_,_,_,λ i=>ns.getD i 0,rfl,(Walks.list (show X.A.in1.handled=none from I.ok.hd hc) _ p (Lf hlt) its.toArray).toS,⟨⟨_,La _ rfl,rfl,rfl⟩,pl.isList.push _⟩,λ b hb=>?_,λ i v hP=>?_,λ s' t' hm=>?_⟩)
   ·rw [L4]
    rcases Ls.mp hb with rfl|hb
    ·exact MH _
    ·rw [Ln.mp hb];exact NV hlt
   ·have hv:its[i]? = some v:=by simpa using hP
    have hi:i < ns.length:=by rw [←hlen];exact(K0.mp hv).1
    obtain⟨u,hu,ru⟩:=rv.get (i:=i) (x:=.int (ns.getD i 0)) (by rw [Lh,KU hi];simp [List.getD,KU hi]);rw [hv] at hu;cases hu;exact ru
   ·obtain⟨hp,g,d,tk,os⟩:=s'
    have kp:∀ b o,s.heap.get? b=some o->hp.get? b=some o:=λ b o e=>hm.heap b o (λ hmem=>by
     have:b=s.heap.objs.size:=by simpa using hmem
     subst this;exact absurd (K6 e) (Mt _)) (KY _ e)
    have e1:g=s.gens:=hm.gens;have e2:d=s.drawn:=hm.drawn;have e3:os=s.os:=hm.os;subst e1 e2 e3;refine⟨.int ns.sum,H,I.kept (t':=tk) kp,?_,q⟩;have es:=iG its.toArray.size ns (λ i=>ns.getD i 0) (λ _=>rfl) (by simp [hlen]);rw [show its.toArray.size=ns.length by simp [hlen],Mw] at es;rw [show its.toArray.size=ns.length by simp [hlen],es];exact⟨t',rfl⟩
 ·exact h.elim
theorem xr(bs:List Bool):(List.range bs.length).all (λ i=>bs.getD i false)=bs.all id:=by
 rw [M4,M0,M0];refine⟨λ h x hx=>?_,λ h i hi=>?_⟩
 ·obtain⟨i,hi,e⟩:=List.getElem_of_mem hx;have:=h i (MF.mpr hi)
  simpa [List.getD,KU hi,e] using this
 ·have hi':=MF.mp hi;have:=h (bs[i]) (Mm hi')
  simpa [List.getD,KU hi'] using this
theorem iy(hc:X.calm=true):bK X (.builtin "all") Hv:=by
 intro pins s σ H vs us Q I r h;unfold Hv at h;split at h
 ·rename_i p;obtain⟨xs,e,bs,rfl,q⟩:=au h
  cases r with
  | cons r rr=>
   cases rr;cases r;obtain⟨its,rv,pl,hz⟩:=I.list (SqL.of (cI e));have hlt:p < s.heap.objs.size:=by obtain⟨_,e,_⟩:=pl.isList;exact K6 e
   have hlen:its.length=bs.length:=by have:=rv.length;simpa using this.symm
   refine call_all_walk (Nv pl.isList ⟨s.heap.objs.size,_,_,_,_,_,λ i=>bs.getD i false,rfl,Walks.list (show X.A.in1.handled=none from I.ok.hd hc) _ p (Lf hlt) its.toArray,⟨⟨_,La _ rfl,rfl,rfl⟩,pl.isList.push _⟩,λ i v s' Q' E' hP hQ=>?_,λ h' tk hk=>?_⟩)
   ·have hv:its[i]? = some v:=by simpa using hP
    have hi:i < bs.length:=by rw [←hlen];exact(K0.mp hv).1
    obtain⟨u,hu,ru⟩:=rv.get (i:=i) (x:=.bl (bs.getD i false)) (by rw [Lh,KU hi];simp [List.getD,KU hi]);rw [hv] at hu;cases hu;have e2:v=.bool (bs.getD i false):=ru;subst e2;exact LX hQ
   ·have kp:∀ b o,s.heap.get? b=some o->h'.get? b=some o:=λ b o e=>hk b o (λ hmem=>by
     have:b=s.heap.objs.size:=by simpa using hmem
     subst this;exact absurd (K6 e) (Mt _)) (KY _ e)
    refine⟨.bl (bs.all id),H,I.kept (t':=tk) kp,?_,q⟩;rw [show its.toArray.size=bs.length by simp [hlen],xr];exact rfl
 ·exact h.elim
end
structure Src(prog:Program)(w:World)(it:Addr)(fr:List Addr)(st:Nat->Heap->Prop)(val:Nat->Option Value):Prop where
 mem:it∈fr
 there:∀ k h,st k h->∀ b∈fr,∃ o,h.get? b=some o
 keep:∀ k h h',st k h->(∀ b∈fr,∀ o,h.get? b=some o->h'.get? b=some o)->st k h'
 item:∀ (A:Around) k s v (Q:Value->Shared->Prop) (E:Value->Shared->Prop),st k s.heap->val k=some v->(∀ h',st (k+1) h'->Heap.SameBut it s.heap h'->Q v { s with heap:=h' })->wpAny (model prog w) A (Builtin.SmallTypes.nextOf (.ref it)) Q E s
 fin:∀ (A:Around) k s (Q:Value->Shared->Prop) (E:Value->Shared->Prop),A.handled=none->st k s.heap->val k=none->(∀ h' e,Heap.ExtBut it s.heap h'->(∃ o,h'.get? e=some o/\o.cls=.type "StopIteration")->E (.ref e) { s with heap:=h' })->wpAny (model prog w) A (Builtin.SmallTypes.nextOf (.ref it)) Q E s
theorem xR{prog:Program}{w:World}(it l:Addr)(hne:l ≠ it)(xs:Array Value):Src prog w it [it,l] (λ k h=>h.IsListIter it l k/\h.IsList l xs) (λ k=>xs[k]?) where
 mem:=K1
 there:=λ k h st b hb=>by
  rcases Ls.mp hb with e|hb
  ·obtain⟨o,q,_⟩:=st.1;exact⟨o,by rw [e];exact q⟩
  ·obtain⟨o,q,_⟩:=st.2;exact⟨o,by rw [Ln.mp hb];exact q⟩
 keep:=λ k h h' st q=>⟨st.1.at λ o e=>q it (by simp) o e,st.2.at λ o e=>q l (by simp) o e⟩
 item:=λ A k s v Q E st hv hQ=>wpAny_nextOf_list_item st.1 st.2 hv λ h' a b=>hQ h' ⟨a,st.2.extBut b.extBut hne⟩ b
 fin:=λ A k s Q E hh st hv hE=>wpAny_nextOf_list_end hh st.1 st.2 hv hE
section
variable {prog:Program}{w:World}{A:Around}{E:Value->Shared->Prop}{s:Shared}
theorem k9{j t:Addr}{k:Nat}{xs:Array Value}{v:Value}{Q:Value->Shared->Prop}(hj:s.heap.IsTupleIter j t k)(ht:s.heap.IsTuple t xs)(hv:xs[k]? = some v)
  (hQ:∀ g,g.IsTupleIter j t (k+1)->Heap.SameBut j s.heap g->Q v { s with heap:=g }):wpAny (model prog w) A (Builtin.SmallTypes.nextOf (.ref j)) Q E s:=by
 obtain⟨oj,h0,h1,h2⟩:=id hj;obtain⟨ot,g0,_,n,g1⟩:=ht;unfold Builtin.SmallTypes.nextOf;refine wpAny_bind (wpAny_callSpecial?_slot (name:=Str.ofString "__next__") hj.typeIs F.slot_tuple_iterator_next (wpAny_call_entry F.slot_tuple_iterator_next hj.typeIs F.entry_tuple_iterator_next ?_ (F.args_tuple_iterator_next_1 _)));refine wpAny_bind (m:=field (.ref j) 0) (wpAny_field h0 h2 (x:=.ref t) rfl ?_)
 show wpAny _ _ (if (Value.ref t == Value.none)=true then _ else _) _ _ _
 rw [K5 (show ¬ ((.ref t:Value) == .none)=true from Lg)];refine KW (m:=field (.ref j) 1) (LY h0 h2 (x:=.int k 0) rfl ?_);refine KW (m:=seqItems? (.ref t)) (Mn g0 g1 ?_);simp only [LK,hv];refine KW (wpAny_setField h0 h2 (by simp) (K8 ⟨v,rfl,K8 (hQ _ ⟨_,NQ _ h0 (Obj.isFreed_of_fields (Obj.data_mapFields h2 _)),(Obj.cls_mapFields ..).trans h1,?_⟩ (Heap.SameBut.update ..))⟩));rw [Obj.data_mapFields h2];simp [rawInt]
theorem m3{j t:Addr}{k:Nat}{xs:Array Value}{Q:Value->Shared->Prop}(hh:A.handled=none)(hj:s.heap.IsTupleIter j t k)(ht:s.heap.IsTuple t xs)(hv:xs[k]? = none)
  (hE:∀ g e,Heap.ExtBut j s.heap g->(∃ o,g.get? e=some o/\o.cls=.type "StopIteration")->E (.ref e) { s with heap:=g }):wpAny (model prog w) A (Builtin.SmallTypes.nextOf (.ref j)) Q E s:=by
 obtain⟨oj,h0,h1,h2⟩:=id hj;obtain⟨ot,g0,_,n,g1⟩:=ht;unfold Builtin.SmallTypes.nextOf;refine wpAny_bind (wpAny_callSpecial?_slot (name:=Str.ofString "__next__") hj.typeIs F.slot_tuple_iterator_next (wpAny_call_entry F.slot_tuple_iterator_next hj.typeIs F.entry_tuple_iterator_next ?_ (F.args_tuple_iterator_next_1 _)));refine wpAny_bind (m:=field (.ref j) 0) (wpAny_field h0 h2 (x:=.ref t) rfl ?_)
 show wpAny _ _ (if (Value.ref t == Value.none)=true then _ else _) _ _ _
 rw [K5 (show ¬ ((.ref t:Value) == .none)=true from Lg)];refine KW (m:=field (.ref j) 1) (LY h0 h2 (x:=.int k 0) rfl ?_);refine KW (m:=seqItems? (.ref t)) (Mn g0 g1 ?_);simp only [LK,hv];refine KW (wpAny_rule (KW (wpAny_setField h0 h2 (by simp) (KW (m:=newExc (.type "StopIteration") []) ?_))));simp only [newExc,newTuple];refine KW (Md (KW (m:=firstArgMember _ _) (wpAny_of_eq (a:=Value.none) (by first|rfl|(simp only [firstArgMember];rfl)) (Md ?_ (by size_fits)))) (by size_fits));simp only [raiseNew]
 refine KW (wpAny_handled ?_);first|rw [show A.in1.handled=none from hh]|rw [hh]
 exact KW (K8 (wpAny_throw (hE _ _ (((Heap.SameBut.update ..).extBut.push _).push _) ⟨_,La _ rfl,rfl⟩)))
theorem Bw(it l:Addr)(hne:l ≠ it)(xs:Array Value):Src prog w it [it,l] (λ k h=>h.IsTupleIter it l k/\h.IsTuple l xs) (λ k=>xs[k]?) where
 mem:=K1
 there:=λ k h st b hb=>by
  rcases Ls.mp hb with e|hb
  ·obtain⟨o,q,_⟩:=st.1;exact⟨o,by rw [e];exact q⟩
  ·obtain⟨o,q,_⟩:=st.2;exact⟨o,by rw [Ln.mp hb];exact q⟩
 keep:=λ k h h' st q=>⟨st.1.at λ o e=>q it (by simp) o e,st.2.at λ o e=>q l (by simp) o e⟩
 item:=λ A k s v Q E st hv hQ=>k9 st.1 st.2 hv λ h' a b=>hQ h' ⟨a,st.2.extBut b.extBut hne⟩ b
 fin:=λ A k s Q E hh st hv hE=>m3 hh st.1 st.2 hv hE
structure jn(z TI TO i j:Addr)(f g:List Addr):Prop where
 ti:TI ≠ z/\TI ≠ TO/\TI ≠ i/\TI ≠ j
 zt:z ≠ TO
 zf:z ∉ f
 zg:z ∉ g
 tf:TO ∉ f
 tg:TO ∉ g
 ig:i ∉ g
 jf:j ∉ f
variable {z TI TO i j:Addr}{f g:List Addr}{ti tj:Nat->Heap->Prop}{vi vj:Nat->Option Value}{k m:Nat}{x y a b:Value}
theorem dO{p q:Addr}{l:List Addr}(hp:p∈l)(hq:q ∉ l):p ≠ q:=λ e=>hq (e ▸ hp)
theorem Src.but{prog:Program}{w:World}{it:Addr}{fr:List Addr}{st:Nat->Heap->Prop}{val:Nat->Option Value}(S:Src prog w it fr st val){k:Nat}{c:Addr}{h h':Heap}(q:st k h)(e:Heap.ExtBut c h h')(hc:c ∉ fr):st k h':=
 S.keep k h h' q λ b hb o ho=>e b o (dO hb hc) ho
theorem vt(S:Src prog w i f ti vi)(T:Src prog w j g tj vj)(D:jn z TI TO i j f g){Q:Value->Shared->Prop}
  (hz:IsZip s.heap z TI TO .none) (hTI:IsPair s.heap TI (.ref i) (.ref j)) (hTO:IsPair s.heap TO a b) (hi:ti k s.heap) (hj:tj m s.heap) (hx:vi k=some x) (hy:vj m=some y)
  (hQ:∀ h',IsZip h' z TI TO (rawInt s.heap.objs.size)->IsPair h' TO x y->ti (k+1) h'->tj (m+1) h'->IsPair h' s.heap.objs.size x y->h'.objs.size=s.heap.objs.size+1->(∀ c o,c ∉ [z,TO,i,j]->s.heap.get? c=some o->h'.get? c=some o)->Q (.ref s.heap.objs.size) { s with heap:=h' }) :
  wpAny (model prog w) A (Builtin.«zip.__next__» ⟨[.ref z],[]⟩) (λ fin s'=>∃ v,fin=.done (.ret v)/\Q v s') E s:=by
 have iz:i ≠ z:=dO S.mem D.zf;have jz:j ≠ z:=dO T.mem D.zg;have iTO:i ≠ TO:=dO S.mem D.tf;have jTO:j ≠ TO:=dO T.mem D.tg;have ij:i ≠ j:=dO S.mem D.jf;refine wpAny_bind (m:=field (.ref z) 2) (wpAny_field hz rfl (x:=.bool false) rfl ?_);refine wpAny_bind (m:=field (.ref z) 3) (wpAny_field hz rfl (x:=.ref TI) rfl (wpAny_bind (wpAny_seqItems hTI rfl ?_)));refine wpAny_bind (m:=Builtin.SmallTypes.ownedTupleIsFree (.ref z)) ?_;unfold Builtin.SmallTypes.ownedTupleIsFree;refine wpAny_bind (wpAny_field hz rfl (x:=.none) rfl (wpAny_pure ?_));simp only [if_true];refine wpAny_bind (wpAny_rule (wpAny_bind (wpAny_field hz rfl (x:=.ref TO) rfl (wpAny_bind (wpAny_setField_rec hz (by simp) λ q1 z1 s1=>?_)))));replace z1:IsZip q1 z TI TO .ellipsis:=z1;refine wpAny_bind ?_;simp only [List.zipIdx_cons,List.zipIdx_nil,List.forIn_cons,List.forIn_nil];refine wpAny_bind (wpAny_bind (wpAny_onRaise (wpAny_bind (m:=Builtin.SmallTypes.nextOf (.ref i)) (S.item _ k _ x _ _ (S.but hi s1.extBut D.zf) hx λ q2 i2 s2=>wpAny_pure ?_))));have o2:IsPair q2 TO a b:=s2.extBut _ _ iTO.symm (s1.extBut _ _ D.zt.symm hTO);refine wpAny_bind (wpAny_seqItems o2 rfl (wpAny_bind (wpAny_updateSeq_pair o2 λ q3 o3 s3=>wpAny_bind (wpAny_letGo (wpAny_pure ?_)))));replace o3:IsPair q3 TO x b:=o3;have j3:tj m q3:=T.but (T.but (T.but hj s1.extBut D.zg) s2.extBut D.ig) s3.extBut D.tg;refine wpAny_bind (wpAny_bind (wpAny_onRaise (wpAny_bind (m:=Builtin.SmallTypes.nextOf (.ref j)) (T.item _ m _ y _ _ j3 hy λ q4 j4 s4=>wpAny_pure ?_))));have o4:IsPair q4 TO x b:=s4.extBut _ _ jTO.symm o3;refine wpAny_bind (wpAny_seqItems o4 rfl (wpAny_bind (wpAny_updateSeq_pair o4 λ q5 o5 s5=>wpAny_bind (wpAny_letGo (wpAny_pure (wpAny_pure ?_))))));replace o5:IsPair q5 TO x y:=o5;refine wpAny_bind (wpAny_seqItems o5 rfl (wpAny_bind (wpAny_newTuple ?_)));have sz:q5.objs.size=s.heap.objs.size:=by rw [s5.1,s4.1,s3.1,s2.1,s1.1]
 have z5:IsZip q5 z TI TO .ellipsis:=s5.extBut _ _ D.zt (s4.extBut _ _ jz.symm (s3.extBut _ _ D.zt (s2.extBut _ _ iz.symm z1)))
 have k5:∀ c o,c ∉ [z,TO,i,j]->s.heap.get? c=some o->q5.get? c=some o:=λ c o hc e=>by
  simp only [Ls,LI,Mo,not_or] at hc;exact s5.extBut _ _ hc.2.1 (s4.extBut _ _ hc.2.2.2 (s3.extBut _ _ hc.2.1 (s2.extBut _ _ hc.2.2.1 (s1.extBut _ _ hc.1 e))))
 have i5:ti (k+1) q5:=S.but (S.but (S.but i2 s3.extBut D.tf) s4.extBut D.jf) s5.extBut D.tf;have j5:tj (m+1) q5:=T.but j4 s5.extBut D.tg;have zlt:z < q5.objs.size:=Heap.lt_size z5;refine wpAny_bind (m:=Builtin.SmallTypes.ownedTupleHandOut (.ref z) (.ref q5.objs.size)) ?_;unfold Builtin.SmallTypes.ownedTupleHandOut;have z6:IsZip (q5.push { cls:=.type "tuple",data:=.seq #[x,y] }) z TI TO .ellipsis:=Heap.get?_push_of_some _ z5;refine wpAny_bind (wpAny_setField_rec z6 (by simp) λ q7 z7 s7=>?_);replace z7:IsZip q7 z TI TO (rawInt q5.objs.size):=z7;refine wpAny_setField_rec z7 (by simp) λ q8 z8 s8=>?_;replace z8:IsZip q8 z TI TO (rawInt q5.objs.size):=z8;have up:∀ c o,c ≠ z->q5.get? c=some o->q8.get? c=some o:=λ c o hc e=>s8.extBut _ _ hc (s7.extBut _ _ hc (Heap.get?_push_of_some _ e));have t8:IsPair q8 q5.objs.size x y:=s8.extBut _ _ (Nat.ne_of_gt zlt) (s7.extBut _ _ (Nat.ne_of_gt zlt) (Heap.get?_push_size _ rfl));have n8:q8.objs.size=q5.objs.size+1:=by rw [s8.1,s7.1,Heap.size_push]
 rw [sz] at z8 t8 n8;refine K8 ⟨_,rfl,?_⟩
 show Q (.ref q5.objs.size) _
 rw [sz];exact hQ q8 z8 (up _ _ D.zt.symm o5) (S.keep _ _ _ i5 λ c hc o e=>up c o (dO hc D.zf) e) (T.keep _ _ _ j5 λ c hc o e=>up c o (dO hc D.zg) e) t8 n8 λ c o hc e=>up c o (λ q=>hc (by simp [q])) (k5 c o hc e)
theorem xK(hh:A.handled=none)(S:Src prog w i f ti vi)(T:Src prog w j g tj vj)(D:jn z TI TO i j f g){Q:Fin->Shared->Prop}
  (hz:IsZip s.heap z TI TO .none) (hTI:IsPair s.heap TI (.ref i) (.ref j)) (hTO:IsPair s.heap TO a b) (hi:ti k s.heap) (hj:tj m s.heap) (hxy:vi k=none\/vj m=none)
  (hE:∀ h' e,(∀ c o,c ∉ [z,TO,i,j]->s.heap.get? c=some o->h'.get? c=some o)->(∃ o,h'.get? e=some o/\o.cls=.type "StopIteration")->E (.ref e) { s with heap:=h' }) :
  wpAny (model prog w) A (Builtin.«zip.__next__» ⟨[.ref z],[]⟩) Q E s:=by
 have iz:i ≠ z:=dO S.mem D.zf;have jz:j ≠ z:=dO T.mem D.zg;have iTO:i ≠ TO:=dO S.mem D.tf;have jTO:j ≠ TO:=dO T.mem D.tg;refine wpAny_bind (m:=field (.ref z) 2) (wpAny_field hz rfl (x:=.bool false) rfl ?_);refine wpAny_bind (m:=field (.ref z) 3) (wpAny_field hz rfl (x:=.ref TI) rfl (wpAny_bind (wpAny_seqItems hTI rfl ?_)));refine wpAny_bind (m:=Builtin.SmallTypes.ownedTupleIsFree (.ref z)) ?_;unfold Builtin.SmallTypes.ownedTupleIsFree;refine wpAny_bind (wpAny_field hz rfl (x:=.none) rfl (wpAny_pure ?_));simp only [if_true];refine wpAny_bind (wpAny_rule (wpAny_bind (wpAny_field hz rfl (x:=.ref TO) rfl (wpAny_bind (wpAny_setField_rec hz (by simp) λ q1 z1 s1=>?_)))));replace z1:IsZip q1 z TI TO .ellipsis:=z1;refine wpAny_bind ?_;simp only [List.zipIdx_cons,List.zipIdx_nil,List.forIn_cons,List.forIn_nil];refine wpAny_bind (wpAny_bind (wpAny_onRaise (wpAny_bind (m:=Builtin.SmallTypes.nextOf (.ref i)) ?_)))
 cases hx:vi k with
 | none=>
  refine S.fin _ k _ _ _ hh (S.but hi s1.extBut D.zf) hx λ q2 e s2 ⟨oe,he,hce⟩=>?_;have z2:IsZip q2 z TI TO .ellipsis:=s2 _ _ iz.symm z1;have ez:e ≠ z:=λ q=>by subst q;rw [z2] at he;cases he;simp at hce
  refine Mu z2 (by simp) λ q3 _ s3=>hE q3 e (λ c o hc q=>?_) ⟨oe,s3.extBut _ _ ez he,hce⟩;simp only [Ls,LI,Mo,not_or] at hc;exact s3.extBut _ _ hc.1 (s2 _ _ hc.2.2.1 (s1.extBut _ _ hc.1 q))
 | some x=>
  have hy:vj m=none:=hxy.resolve_left (by rw [hx];exact Option.some_ne_none x);refine S.item _ k _ x _ _ (S.but hi s1.extBut D.zf) hx λ q2 i2 s2=>K8 ?_;have o2:IsPair q2 TO a b:=s2.extBut _ _ iTO.symm (s1.extBut _ _ D.zt.symm hTO);refine KW (Mn o2 rfl (KW (NS o2 λ q3 o3 s3=>KW (wpAny_letGo (K8 ?_)))));have j3:tj m q3:=T.but (T.but (T.but hj s1.extBut D.zg) s2.extBut D.ig) s3.extBut D.tg;refine KW (KW (N6 (KW (m:=Builtin.SmallTypes.nextOf (.ref j)) (T.fin _ m _ _ _ hh j3 hy λ q4 e s4 ⟨oe,he,hce⟩=>?_))));have z4:IsZip q4 z TI TO .ellipsis:=s4 _ _ jz.symm (s3.extBut _ _ D.zt (s2.extBut _ _ iz.symm z1));have ez:e ≠ z:=λ q=>by subst q;rw [z4] at he;cases he;simp at hce
  refine Mu z4 (by simp) λ q5 _ s5=>hE q5 e (λ c o hc q=>?_) ⟨oe,s5.extBut _ _ ez he,hce⟩;simp only [Ls,LI,Mo,not_or] at hc;exact s5.extBut _ _ hc.1 (s4 _ _ hc.2.2.2 (s3.extBut _ _ hc.2.1 (s2.extBut _ _ hc.2.2.1 (s1.extBut _ _ hc.1 q))))
theorem i8(S:Src prog w i f ti vi)(T:Src prog w j g tj vj)(D:jn z TI TO i j f g){Q:Option Value->Shared->Prop}
  (hz:IsZip s.heap z TI TO .none) (hTI:IsPair s.heap TI (.ref i) (.ref j)) (hTO:IsPair s.heap TO a b) (hi:ti k s.heap) (hj:tj m s.heap) (hx:vi k=some x) (hy:vj m=some y)
  (hQ:∀ h',IsZip h' z TI TO (rawInt s.heap.objs.size)->IsPair h' TO x y->ti (k+1) h'->tj (m+1) h'->IsPair h' s.heap.objs.size x y->h'.objs.size=s.heap.objs.size+1->(∀ c o,c ∉ [z,TO,i,j]->s.heap.get? c=some o->h'.get? c=some o)->Q (some (.ref s.heap.objs.size)) { s with heap:=h' }) :
  wpAny (model prog w) A (pyNext (.ref z)) Q E s:=by
 have ty:s.TypeIs (.ref z) "zip":=⟨_,hz,rfl⟩;unfold pyNext;exact wpAny_bind (wpAny_attempt (wpAny_callSpecial?_slot (name:=Str.ofString "__next__") ty F.slot_zip_next (wpAny_call_entry F.slot_zip_next ty F.entry_zip_next (vt S T D hz hTI hTO hi hj hx hy λ h' c1 c2 c3 c4 c5 c6 c7=>wpAny_pure (hQ h' c1 c2 c3 c4 c5 c6 c7)) (F.args_zip_next_1 _))))
theorem kU(hh:A.handled=none)(S:Src prog w i f ti vi)(T:Src prog w j g tj vj)(D:jn z TI TO i j f g){Q:Option Value->Shared->Prop}
  (hz:IsZip s.heap z TI TO .none) (hTI:IsPair s.heap TI (.ref i) (.ref j)) (hTO:IsPair s.heap TO a b) (hi:ti k s.heap) (hj:tj m s.heap) (hxy:vi k=none\/vj m=none)
  (hQ:∀ h',(∀ c o,c ∉ [z,TO,i,j]->s.heap.get? c=some o->h'.get? c=some o)->Q none { s with heap:=h' }):wpAny (model prog w) A (pyNext (.ref z)) Q E s:=by
 have ty:s.TypeIs (.ref z) "zip":=⟨_,hz,rfl⟩;unfold pyNext;refine wpAny_bind (wpAny_attempt (wpAny_callSpecial?_slot (name:=Str.ofString "__next__") ty F.slot_zip_next (wpAny_call_entry F.slot_zip_next ty F.entry_zip_next (xK (show A.in1.handled=none from hh) S T D hz hTI hTO hi hj hxy λ h' e kp he=>?_) (F.args_zip_next_1 _))));obtain⟨o,ho,hc⟩:=he;exact wpAny_bind (wpAny_isInstance (T := "StopIteration") (b:=true) ⟨o,ho,hc⟩ isSubtype_stop (wpAny_pure (hQ _ kp)))
end
def SeqAt(h:Heap)(k:Bool)(l:Addr)(xs:Array Value):Prop:=match k with
 | true=>h.IsTuple l xs
 | false=>h.IsList l xs
def cK(h:Heap)(k:Bool)(it l:Addr)(n:Nat):Prop:=match k with
 | true=>h.IsTupleIter it l n
 | false=>h.IsListIter it l n
def xH(k:Bool)(l:Addr):Obj:=match k with
 | true=>{ cls:=.type "tuple_iterator",data:=.fields #[.ref l,.int 0 0] }
 | false=>{ cls:=.type "list_iterator",data:=.fields #[.ref l,.int 0 0] }
theorem SeqAt.at{h h':Heap}{k:Bool}{l:Addr}{xs:Array Value}(q:SeqAt h k l xs)(e:∀ o,h.get? l=some o->h'.get? l=some o):SeqAt h' k l xs:=by
 cases k
 ·exact Heap.IsList.at q e
 ·exact Heap.IsTuple.at q e
theorem cK.at{h h':Heap}{k:Bool}{it l:Addr}{n:Nat}(q:cK h k it l n)(e:∀ o,h.get? it=some o->h'.get? it=some o):cK h' k it l n:=by
 cases k
 ·exact Heap.IsListIter.at q e
 ·exact Heap.IsTupleIter.at q e
theorem cK.obj{h:Heap}{k:Bool}{it l:Addr}{n:Nat}(q:cK h k it l n):∃ o fs,h.get? it=some o/\o.data=.fields fs:=by
 cases k
 ·obtain⟨o,e,_,d⟩:=(show h.IsListIter it l n from q);exact⟨o,_,e,d⟩
 ·obtain⟨o,e,_,d⟩:=(show h.IsTupleIter it l n from q);exact⟨o,_,e,d⟩
theorem oZ{prog:Program}{w:World}(k:Bool)(it l:Addr)(hne:l ≠ it)(xs:Array Value):Src prog w it [it,l] (λ n h=>cK h k it l n/\SeqAt h k l xs) (λ n=>xs[n]?):=by
 cases k
 ·exact xR it l hne xs
 ·exact Bw it l hne xs
section
variable {prog:Program}{w:World}{A:Around}{E:Value->Shared->Prop}{s:Shared}
theorem uV{k:Bool}{l:Addr}{xs:Array Value}{Q:Value->Shared->Prop}(h:SeqAt s.heap k l xs)(hQ:Q (.ref s.heap.objs.size) { s with heap:=s.heap.push (xH k l) }):wpAny (model prog w) A (pyIter (.ref l)) Q E s:=by
 cases k
 ·exact Nv h hQ
 ·exact wpAny_pyIter_tuple h hQ
abbrev zq1(ka:Bool)(a:Addr)(h:Heap):Heap:=h.push (xH ka a)
abbrev zq2(ka kb:Bool)(a b:Addr)(h:Heap):Heap:=(zq1 ka a h).push (xH kb b)
abbrev zq3(ka kb:Bool)(a b:Addr)(h:Heap):Heap:=(zq2 ka kb a b h).push { cls:=.type "tuple",data:=.seq #[.ref h.objs.size,.ref (zq1 ka a h).objs.size] }
abbrev zq4(ka kb:Bool)(a b:Addr)(h:Heap):Heap:=(zq3 ka kb a b h).push { cls:=.type "tuple",data:=.seq #[.none,.none] }
abbrev zq5(ka kb:Bool)(a b:Addr)(h:Heap):Heap:=(zq4 ka kb a b h).push { cls:=.type "zip",data:=.fields #[.none,.bool false,.bool false,.ref (zq2 ka kb a b h).objs.size,.ref (zq3 ka kb a b h).objs.size] }
theorem vq(ka kb:Bool)(a b:Addr)(xs ys:Array Value):Meets (Builtin.«zip.__new__» ⟨[.type "zip",.ref a,.ref b],[]⟩) (λ _ R s=>SeqAt s.heap ka a xs/\SeqAt s.heap kb b ys/\R (.ok (.ret (.ref (zq4 ka kb a b s.heap).objs.size))) { s with heap:=zq5 ka kb a b s.heap }):=
 .of_wp λ prog w A R s h=>by
  obtain⟨hp,g,d,tk,os⟩:=s;obtain⟨h1,h2,h⟩:=h;have hsub:=sub_zip;have q1:SeqAt (Shared.heap ⟨hp,g,d,tk,os⟩) ka a xs:=h1;have q2:SeqAt (Shared.heap ⟨hp.push (xH ka a),g,d,tk,os⟩) kb b ys:=h2.at λ o e=>KY _ e
  wp_walk using uV q1,uV q2
  exact⟨_,rfl,h⟩
theorem Dx{ka kb:Bool}{a b:Addr}{xs ys:Array Value}{Q:Value->Shared->Prop}(h1:SeqAt s.heap ka a xs)(h2:SeqAt s.heap kb b ys)
  (h:∀ h' n,n=s.heap.objs.size->IsZip h' (n+4) (n+2) (n+3) .none->IsPair h' (n+2) (.ref n) (.ref (n+1))->IsPair h' (n+3) .none .none->cK h' ka n a 0->cK h' kb (n+1) b 0->h'.objs.size=n+5->(∀ c o,s.heap.get? c=some o->h'.get? c=some o)->Q (.ref (n+4)) { s with heap:=h' }) :
  wpAny (model prog w) A (call (.type "zip") [.ref a,.ref b]) Q E s:=by
 refine callType_new F.called_zip (by decide) (F.typeCall_zip_2 _ _) (F.newCall_zip_2 _ _) (λ ob=>F.args_object_init_3 ob _ _) F.entry_zip_new (vq ka kb a b xs ys) ⟨h1,h2,?_⟩;have n1:(zq1 ka a s.heap).objs.size=s.heap.objs.size+1:=L4 ..;have n2:(zq2 ka kb a b s.heap).objs.size=s.heap.objs.size+2:=by rw [L4,n1]
 have n3:(zq3 ka kb a b s.heap).objs.size=s.heap.objs.size+3:=by rw [L4,n2]
 have n4:(zq4 ka kb a b s.heap).objs.size=s.heap.objs.size+4:=by rw [L4,n3]
 have n5:(zq5 ka kb a b s.heap).objs.size=s.heap.objs.size+5:=by rw [L4,n4]
 have f1:cK (zq1 ka a s.heap) ka s.heap.objs.size a 0:=by
  cases ka<;>exact⟨_,La _ rfl,rfl,rfl⟩
 have f2:cK (zq2 ka kb a b s.heap) kb (zq1 ka a s.heap).objs.size b 0:=by
  cases kb<;>exact⟨_,La _ rfl,rfl,rfl⟩
 have u2:∀ c o,(zq2 ka kb a b s.heap).get? c=some o->(zq5 ka kb a b s.heap).get? c=some o:=λ c o e=>KY _ (KY _ (KY _ e));have g5:(zq5 ka kb a b s.heap).get? (zq4 ka kb a b s.heap).objs.size=some _:=La _ rfl;have g4:(zq5 ka kb a b s.heap).get? (zq3 ka kb a b s.heap).objs.size=some _:=KY _ (La _ rfl);have g3:(zq5 ka kb a b s.heap).get? (zq2 ka kb a b s.heap).objs.size=some _:=KY _ (KY _ (La _ rfl));have e1:cK (zq5 ka kb a b s.heap) ka s.heap.objs.size a 0:=f1.at λ o e=>u2 _ o (KY _ e);have e2:cK (zq5 ka kb a b s.heap) kb (zq1 ka a s.heap).objs.size b 0:=f2.at λ o e=>u2 _ o e
 show _/\_
 rw [n2,n3,n4] at g5;rw [n1,n2] at g3;rw [n3] at g4;rw [n1] at e2;rw [n4];exact⟨⟨_,g5,rfl⟩,h _ _ rfl g5 g3 g4 e1 e2 n5 λ c o e=>u2 c o (KY _ (KY _ e))⟩
end
section
variable {X:Cx}{pins:List (Addr × Obj)}{σ:List (Option V)}{H:Hp}{s:Shared}{h':Heap}
theorem Inv.turnNew{t':Nat}{ch:List Addr}{n:Addr}{o:HO}(I:Inv X pins σ H s)(hch:∀ b∈ch,ny X pins H b)(k:∀ b ob,b ∉ ch->s.heap.get? b=some ob->h'.get? b=some ob)(hn:s.heap.objs.size<=n)(new:bV X.prog X.w (upd H n o) h' n o) :
  Inv X pins σ (upd H n o) { s with heap:=h',toks:=t' }:=by
 have fn:=I.hok.fresh hn;have up:∀ {b u},H b=some u->upd H n o b=some u:=λ {b u} e=>by rw [ae (bI e fn)];exact e
 have nch:∀ {b u},H b=some u->b ∉ ch:=λ {b u} e z=>by rw [(hch b z).1] at e;cases e
 refine I.step (g':=s.gens) (d':=s.drawn) (ch:=ch) (λ b hb=>⟨(hch b hb).2.2.2.1,(hch b hb).2.1,(hch b hb).2.2.2.2.1,(hch b hb).2.2.2.2.2⟩) (λ b ob _ _ hc e _=>k b ob hc e) (λ b ob _ _ hc e _=>⟨ob.slots,k b ob hc e⟩)
  (λ b ob _ e q=>?_) (λ b ob hc e=>⟨ob,k b ob hc e⟩) (λ _ _ e=>up e) (λ _ _ _ e=>up e) (λ b ps e=>⟨#[],by rw [up e];simp⟩) (λ m hm=>?_) (λ b u e=>?_) I.bare
 ·rw [ae (Lf (Le (K6 e) hn))];exact q
 ·obtain⟨ol,es,ep,ho,r⟩:=hm;exact⟨ol,es,ep,k _ ol (λ z=>(hch _ z).2.1 rfl) ho,r⟩
 ·by_cases hb:b=n
  ·subst hb;rw [ah] at e;cases e;exact new
  ·rw [ae hb] at e;refine(I.hok b u e).stay (λ c v hc q=>k c v ?_ q) (λ c q=>up q) λ c xs q=>up q
   rcases hc with rfl|hc
   ·exact nch e
   ·exact nch hc
theorem Inv.turnL{t':Nat}{ch:List Addr}(I:Inv X pins σ H s)(hch:∀ b∈ch,ny X pins H b)(k:∀ b ob,b ∉ ch->s.heap.get? b=some ob->h'.get? b=some ob):Inv X pins σ H { s with heap:=h',toks:=t' }:=by
 have nch:∀ {b u},H b=some u->b ∉ ch:=λ {b u} e z=>by rw [(hch b z).1] at e;cases e
 refine I.step (g':=s.gens) (d':=s.drawn) (ch:=ch) (λ b hb=>⟨(hch b hb).2.2.2.1,(hch b hb).2.1,(hch b hb).2.2.2.2.1,(hch b hb).2.2.2.2.2⟩) (λ b ob _ _ hc e _=>k b ob hc e) (λ b ob _ _ hc e _=>⟨ob.slots,k b ob hc e⟩)
  (λ _ _ _ _ q=>q) (λ b ob hc e=>⟨ob,k b ob hc e⟩) (λ _ _ e=>e) (λ _ _ _ e=>e) (λ b ps e=>⟨#[],by rw [e];simp⟩) (λ m hm=>?_) (λ b u e=>?_) I.bare
 ·obtain⟨ol,es,ep,ho,r⟩:=hm;exact⟨ol,es,ep,k _ ol (λ z=>(hch _ z).2.1 rfl) ho,r⟩
 ·refine(I.hok b u e).stay (λ c v hc q=>k c v ?_ q) (λ _ q=>q) λ _ _ q=>q
  rcases hc with rfl|hc
  ·exact nch e
  ·exact nch hc
end
def SqK(k:Bool)(H:Hp)(a:Addr)(xs:List V):Prop:=match k with
 | true=>H a=some (.tup xs)
 | false=>H a=some (.lst xs)
theorem SqK.ne{k:Bool}{H:Hp}{a b:Addr}{xs:List V}(h:SqK k H a xs)(e:H b=none):a ≠ b:=λ z=>by
 subst z;cases k
 ·rw [show H a=some (.lst xs) from h] at e;cases e
 ·rw [show H a=some (.tup xs) from h] at e;cases e
theorem Inv.sq{X:Cx}{pins:List (Addr × Obj)}{σ:St}{H:Hp}{s:Shared}{k:Bool}{a:Addr}{xs:List V}(I:Inv X pins σ H s)(h:SqK k H a xs):∃ its:List Value,aT xs its/\SeqAt s.heap k a its.toArray:=by
 cases k
 ·obtain⟨its,r,p,_⟩:=I.list (SqL.of h);exact⟨its,r,p.isList⟩
 ·obtain⟨its,r,p,_⟩:=I.tuple (SqT.of h);exact⟨its,r,p⟩
def Itz(ka kb:Bool)(a b:Addr)(xs ys:List V):It:=
 ⟨λ i H=>SqK ka H a xs/\SqK kb H b ys/\i < xs.length/\i < ys.length,λ i H x H'=>∃ p u v,H p=none/\x=.ref p/\xs[i]? = some u/\ys[i]? = some v/\H'=upd H p (.tup [u,v]),λ i H=>SqK ka H a xs/\SqK kb H b ys/\(xs.length<=i\/ys.length<=i)⟩
def Tnz(ka kb:Bool)(a b z TI TO p q:Addr)(i:Nat)(h:Heap):Prop:=IsZip h z TI TO .none/\IsPair h TI (.ref p) (.ref q)/\(∃ u v,IsPair h TO u v)/\cK h ka p a i/\cK h kb q b i
theorem xP{P:Program}{w:World}{K:W.Frag}{elts:List Expr}{x1}{tp:Pos}(ka kb:Bool)(a b z TI TO p q:Addr)(xs ys:List V)(nd:[z,TI,TO,p,q].Nodup):zZ P w K (.Tuple elts x1 tp) (Itz ka kb a b xs ys) [z,TI,TO,p,q] z (Tnz ka kb a b z TI TO p q) where
 mem:=K1
 obj:=λ i h st c hc=>by
  obtain⟨e1,e2,⟨u,v,e3⟩,e4,e5⟩:=st;simp only [Ls,LI,Mo] at hc
  rcases hc with rfl|rfl|rfl|rfl|rfl
  ·exact⟨_,e1,λ v z=>by cases z⟩
  ·exact⟨_,e2,λ v z=>by cases z⟩
  ·exact⟨_,e3,λ v z=>by cases z⟩
  ·obtain⟨o,fs,e,d⟩:=e4.obj;exact⟨o,e,λ v z=>by rw [d] at z;cases z⟩
  ·obtain⟨o,fs,e,d⟩:=e5.obj;exact⟨o,e,λ v z=>by rw [d] at z;cases z⟩
 keep:=λ i h h' st k=>by
  obtain⟨e1,e2,⟨u,v,e3⟩,e4,e5⟩:=st;exact⟨k z (by simp) _ e1,k TI (by simp) _ e2,⟨u,v,k TO (by simp) _ e3⟩,e4.at λ o e=>k p (by simp) o e,e5.at λ o e=>k q (by simp) o e⟩
 item:=by
  intro X hP hw hK hc i pins s σ H E I hf st hg;subst hP hw hK;obtain⟨e1,e2,⟨u0,v0,e3⟩,e4,e5⟩:=st;obtain⟨ha,hb,l1,l2⟩:=hg;obtain⟨as,ra,sa⟩:=I.sq ha;obtain⟨bs,rb,sb⟩:=I.sq hb;have hx:xs[i]? = some xs[i]:=KU l1;have hy:ys[i]? = some ys[i]:=KU l2;obtain⟨u,hu,ru⟩:=ra.get hx;obtain⟨v,hv,rv⟩:=rb.get hy;have free:∀ c∈[z,TI,TO,p,q],H c=none:=λ c h=>(hf c h).1;have naz:∀ c∈[z,TI,TO,p,q],a ≠ c:=λ c h=>ha.ne (free c h);have nbz:∀ c∈[z,TI,TO,p,q],b ≠ c:=λ c h=>hb.ne (free c h);simp only [LD,Ls,LI,Mo,not_or,not_false_eq_true,and_true,NH] at nd;obtain⟨⟨z1,z2,z3,z4⟩,⟨t1,t2,t3⟩,⟨w1,w2⟩,y1⟩:=nd;have S:=oZ (prog:=X.prog) (w:=X.w) ka p a (naz p (by simp)) as.toArray;have T:=oZ (prog:=X.prog) (w:=X.w) kb q b (nbz q (by simp)) bs.toArray;have D:jn z TI TO p q [p,a] [q,b]:=⟨⟨Lw z1,t1,t2,t3⟩,z2,by simp [z3,Lw (naz z (by simp))],by simp [z4,Lw (nbz z (by simp))],by simp [w1,Lw (naz TO (by simp))],by simp [w2,Lw (nbz TO (by simp))],by simp [y1,Lw (nbz p (by simp))],by simp [Lw y1,Lw (naz q (by simp))]⟩;refine i8 S T D e1 e2 e3 ⟨e4,sa⟩ ⟨e5,sb⟩ (x:=u) (y:=v) (by simpa using hu) (by simpa using hv) λ h1 c1 c2 c3 c4 c5 c6 c7=>?_;refine⟨_,rfl,wpAny_letOwnedTupleGo_zip (s:={ s with heap:=h1 }) c1 λ h2 d1 d2=>?_⟩;have lt:z < s.heap.objs.size:=K6 e1;have kp:∀ c o,c ∉ [z,TO,p,q]->s.heap.get? c=some o->h2.get? c=some o:=λ c o hc e=>d2.extBut _ _ (λ q=>hc (by simp [q])) (c7 c o hc e);have hn:h2.get? s.heap.objs.size=some { cls:=.type "tuple",data:=.seq #[u,v] }:=d2.extBut _ _ (ML lt) c5;have I2:Inv X pins σ (upd H s.heap.objs.size (.tup [xs[i],ys[i]])) { s with heap:=h2 }:=I.turnNew (t':=s.toks) (ch:=[z,TO,p,q]) (λ c hc=>hf c (by simp only [Ls,LI,Mo] at hc ⊢;rcases hc with h|h|h|h<;>simp [h])) kp (K3 _) ⟨(show 2<=sizeLine by decide),[u,v],.cons ru (.cons rv .nil),⟨_,hn,rfl,_,rfl⟩⟩;have fr:H s.heap.objs.size=none:=I.hok.fresh (K3 _);refine⟨.ref s.heap.objs.size,_,I2,rfl,⟨_,_,_,fr,rfl,hx,hy,rfl⟩,⟨d1,d2.extBut _ _ (Lw z1) (c7 TI _ (by simp [Lw z1,t1,t2,t3]) e2),⟨u,v,d2.extBut _ _ (Lw z2) c2⟩,c3.1.at λ o e=>d2.extBut _ _ (Lw z3) e,c4.1.at λ o e=>d2.extBut _ _ (Lw z4) e⟩,λ c hc=>?_⟩
  obtain⟨o,ho,_⟩:∃ o,s.heap.get? c=some o/\True:=by
   simp only [Ls,LI,Mo] at hc
   rcases hc with rfl|rfl|rfl|rfl|rfl
   ·exact⟨_,e1,trivial⟩
   ·exact⟨_,e2,trivial⟩
   ·exact⟨_,e3,trivial⟩
   ·obtain⟨o,_,e,_⟩:=e4.obj;exact⟨o,e,trivial⟩
   ·obtain⟨o,_,e,_⟩:=e5.obj;exact⟨o,e,trivial⟩
  rw [ae (Lf (K6 ho))];exact free c hc
 done:=by
  intro X hP hw hK hc i pins s σ H E I hf st hg;subst hP hw hK;obtain⟨e1,e2,⟨u0,v0,e3⟩,e4,e5⟩:=st;obtain⟨ha,hb,l⟩:=hg;obtain⟨as,ra,sa⟩:=I.sq ha;obtain⟨bs,rb,sb⟩:=I.sq hb;have free:∀ c∈[z,TI,TO,p,q],H c=none:=λ c h=>(hf c h).1;have naz:∀ c∈[z,TI,TO,p,q],a ≠ c:=λ c h=>ha.ne (free c h);have nbz:∀ c∈[z,TI,TO,p,q],b ≠ c:=λ c h=>hb.ne (free c h);simp only [LD,Ls,LI,Mo,not_or,not_false_eq_true,and_true,NH] at nd;obtain⟨⟨z1,z2,z3,z4⟩,⟨t1,t2,t3⟩,⟨w1,w2⟩,y1⟩:=nd;have S:=oZ (prog:=X.prog) (w:=X.w) ka p a (naz p (by simp)) as.toArray;have T:=oZ (prog:=X.prog) (w:=X.w) kb q b (nbz q (by simp)) bs.toArray;have D:jn z TI TO p q [p,a] [q,b]:=⟨⟨Lw z1,t1,t2,t3⟩,z2,by simp [z3,Lw (naz z (by simp))],by simp [z4,Lw (nbz z (by simp))],by simp [w1,Lw (naz TO (by simp))],by simp [w2,Lw (nbz TO (by simp))],by simp [y1,Lw (nbz p (by simp))],by simp [Lw y1,Lw (naz q (by simp))]⟩;have la:=ra.length;have lb:=rb.length;refine kU (I.ok.hd hc) S T D e1 e2 e3 ⟨e4,sa⟩ ⟨e5,sb⟩ (l.imp (λ h=>by simp;omega) λ h=>by simp;omega) λ h1 kp=>⟨rfl,I.turnL (t':=s.toks) (ch:=[z,TO,p,q]) (λ c hc=>hf c (by simp only [Ls,LI,Mo] at hc ⊢;rcases hc with h|h|h|h<;>simp [h])) kp⟩
 self:=λ _ _ _ _ _ st h=>wpAny_pyIter_zip st.1 h
def kZ2(ka:Bool)(a b:Addr)(xs:List V)(H:Hp)(R:It->Hp->Prop):HO->Prop:=λ o=>match o with
 | .lst ys=>R (Itz ka false a b xs ys) H
 | .tup ys=>R (Itz ka true a b xs ys) H
 | _=>False
theorem Cw(ka:Bool)(a b:Addr)(xs ys:List V)(H:Hp)(R:It->Hp->Prop):kZ2 ka a b xs H R (.lst ys)=R (Itz ka false a b xs ys) H:=rfl
def kZ1(a b:Addr)(H:Hp)(R:It->Hp->Prop):HO->Prop:=λ o=>match o with
 | .lst xs=>aO (H b) (kZ2 false a b xs H R)
 | .tup xs=>aO (H b) (kZ2 true a b xs H R)
 | _=>False
theorem Cz(a b:Addr)(xs:List V)(H:Hp)(R:It->Hp->Prop):kZ1 a b H R (.lst xs)=aO (H b) (kZ2 false a b xs H R):=rfl
theorem Cy(a b:Addr)(xs:List V)(H:Hp)(R:It->Hp->Prop):kZ1 a b H R (.tup xs)=aO (H b) (kZ2 true a b xs H R):=rfl
def kZ0(R:It->Hp->Prop):List V->Hp->Prop:=λ vs H=>match vs with
 | [.ref a,.ref b]=>aO (H a) (kZ1 a b H R)
 | _=>False
theorem IK(R:It->Hp->Prop)(a b:Addr)(H:Hp):kZ0 R [.ref a,.ref b] H=aO (H a) (kZ1 a b H R):=rfl
def J2(ta:TA):TI:=λ σ H R=>ta σ H (kZ0 R)
theorem GI(ta:TA)(σ:St)(H:Hp)(R:It->Hp->Prop):J2 ta σ H R=ta σ H (kZ0 R):=rfl
theorem GW{R:It->Hp->Prop}{vs:List V}{H:Hp}(h:kZ0 R vs H):∃ a b ka kb xs ys,vs=[.ref a,.ref b]/\SqK ka H a xs/\SqK kb H b ys/\R (Itz ka kb a b xs ys) H:=by
 unfold kZ0 at h;split at h
 ·rename_i a b;obtain⟨o,e,h⟩:=au h;unfold kZ1 at h;split at h
  ·rename_i xs;obtain⟨o',e',h⟩:=au h;unfold kZ2 at h;split at h
   ·exact⟨a,b,false,false,xs,_,rfl,e,e',h⟩
   ·exact⟨a,b,false,true,xs,_,rfl,e,e',h⟩
   ·exact h.elim
  ·rename_i xs;obtain⟨o',e',h⟩:=au h;unfold kZ2 at h;split at h
   ·exact⟨a,b,true,false,xs,_,rfl,e,e',h⟩
   ·exact⟨a,b,true,true,xs,_,rfl,e,e',h⟩
   ·exact h.elim
  ·exact h.elim
 ·exact h.elim
section
variable {X:Cx}
theorem EW{a b:Expr}{elts:List Expr}{x1}{tp:Pos}{ta:TA}{p pos:Pos}(hg:Gl X "zip")(hm:X.mg "zip"=none)(ha:PA X [a,b] ta)(hs:starEach [a,b] X.env=[(false,eval a X.env),(false,eval b X.env)]:=by rfl)(hs2:starEach [b] X.env=[(false,eval b X.env)]:=by rfl) :
  PI X (.Tuple elts x1 tp) (.Call (.Name "zip" p) [a,b] [] pos) (J2 ta):=by
 intro pins s σ H R I h;refine Call_ (ft I hg hm (show bootBuiltins "zip"=some (.type "zip") by decide +kernel) (LN (thn (ha pos pins s σ H _ I h) λ us s1 ⟨vs,H1,I1,r1,q1⟩=>?_) (by rw [hs,hs2]) (by rw [hs2];rfl)));obtain⟨a,b,ka,kb,xs,ys,rfl,sa,sb,q⟩:=GW q1
 cases r1 with
 | cons r rr=>
  cases rr with
  | cons r' rr=>
   cases rr;cases r;cases r';obtain⟨as,ra,s1a⟩:=I1.sq sa;obtain⟨bs,rb,s1b⟩:=I1.sq sb;refine Dx s1a s1b λ h' n hn e1 e2 e3 e4 e5 e6 e7=>?_;have I2:Inv X pins σ H1 { s1 with heap:=h' }:=I1.kept (t':=s1.toks) e7;refine wpAny_pyIter_zip (s:={ s1 with heap:=h' }) e1 ⟨n+4,[n+4,n+2,n+3,n,n+1],_,_,H1,rfl,I2,xP ka kb a b (n+4) (n+2) (n+3) n (n+1) xs ys (by simp),⟨e1,e2,⟨_,_,e3⟩,e4,e5⟩,λ c hc=>?_,q⟩
   have hle:s1.heap.objs.size<=c:=by
    rw [←hn];simp only [Ls,LI,Mo] at hc
    rcases hc with rfl|rfl|rfl|rfl|rfl
    ·exact MZ ..
    ·exact MZ ..
    ·exact MZ ..
    ·exact K3 _
    ·exact MZ ..
   exact I1.fpOk hle (I1.hok.fresh hle)
end
def DS(te:TE)(σ2:St)(N1:VK)(N0:Hp->Prop):Bool->Hp->Prop:=λ b H=>if b=true then te σ2 H N1 else N0 H
theorem aU(te:TE)(σ2:St)(N1:VK)(N0:Hp->Prop)(b:Bool)(H:Hp):DS te σ2 N1 N0 b H=(if b=true then te σ2 H N1 else N0 H):=rfl
def kCm(k:Nat)(tt:TT)(te:TE)(σ:St)(N1:VK)(N0:Hp->Prop):St->Hp->Prop:=λ σ2 H=>(∃ vs:St,vs.length=k/\σ2=vs++σ)/\tt σ2 H (DS te σ2 N1 N0)
theorem bW(tt:TT)(te:TE)(σ:St)(N1:VK)(N0:Hp->Prop)(a:Option V)(H:Hp):kCm 1 tt te σ N1 N0 (a::σ) H=tt (a::σ) H (DS te (a::σ) N1 N0):=propext ⟨λ h=>h.2,λ h=>⟨⟨[a],rfl,rfl⟩,h⟩⟩
theorem b7(tt:TT)(te:TE)(σ:St)(N1:VK)(N0:Hp->Prop)(a b:Option V)(H:Hp):kCm 2 tt te σ N1 N0 (a::b::σ) H=tt (a::b::σ) H (DS te (a::b::σ) N1 N0):=propext ⟨λ h=>h.2,λ h=>⟨⟨[a,b],rfl,rfl⟩,h⟩⟩
theorem Ck(σ:St):List.replicate 1 (none:Option V)++σ=none::σ:=rfl
theorem Cj(σ:St):List.replicate 2 (none:Option V)++σ=none::none::σ:=rfl
theorem Ci(σ:St):List.replicate 3 (none:Option V)++σ=none::none::none::σ:=rfl
theorem uS(tt:TT)(te:TE)(σ:St)(N1:VK)(N0:Hp->Prop)(a b c:Option V)(H:Hp):kCm 3 tt te σ N1 N0 (a::b::c::σ) H=tt (a::b::c::σ) H (DS te (a::b::c::σ) N1 N0):=propext ⟨λ h=>h.2,λ h=>⟨⟨[a,b,c],rfl,rfl⟩,h⟩⟩
def Al{α:Type}(R:α->V->Prop)(zs:List α)(ys:List V):Prop:=ys.length=zs.length/\∀ (i:Nat) z y,zs[i]? = some z->ys[i]? = some y->R z y
theorem Al.nil{α:Type}{R:α->V->Prop}:Al R [] []:=⟨rfl,λ i z y h=>by simp at h⟩
theorem Al.snoc{α:Type}{R:α->V->Prop}{zs:List α}{ys:List V}{z:α}{y:V}(h:Al R zs ys)(r:R z y):Al R (zs++[z]) (ys++[y]):=by
 refine⟨by simp [h.1],λ i z' y' h1 h2=>?_⟩
 by_cases hi:i < zs.length
 ·rw [LQ hi] at h1;rw [LQ (by rw [h.1];exact hi)] at h2;exact h.2 i z' y' h1 h2
 ·rw [Lk (by omega)] at h1;rw [Lk (by rw [h.1];omega),h.1] at h2
  by_cases h0:i - zs.length=0
  ·rw [h0] at h1 h2;simp at h1 h2;subst h1;subst h2;exact r
  ·rw [Mj (by simp;omega)] at h1;cases h1
theorem Al.imp{α:Type}{R S:α->V->Prop}{zs:List α}{ys:List V}(h:Al R zs ys)(f:∀ z y,R z y->S z y):Al S zs ys:=⟨h.1,λ i z y a b=>f z y (h.2 i z y a b)⟩
theorem Al.map{α:Type}{f:α->V}{zs:List α}{ys:List V}(h:Al (λ z y=>y=f z) zs ys):ys=zs.map f:=by
 apply NW;intro i;rw [Lh]
 by_cases hi:i < zs.length
 ·have e1:zs[i]? = some zs[i]:=KU hi;have e2:ys[i]? = some (ys[i]'(by rw [h.1];exact hi)):=KU _;rw [e1,e2,h.2 i _ _ e1 e2];rfl
 ·have:=h.1;rw [Mj (show ys.length<=i by omega),Mj (show zs.length<=i by omega)];rfl
section
variable {k:Nat}{g:TG}{tt:TT}{te:TE}{σ:St}{Q:VK}{H:Hp}{K:PySem.W.Frag}
theorem qg{α:Type}{J:It}(zs:List α)(c:α->Bool)(P:α->V->Hp->Prop)(R:Addr->α->V->Hp->Prop)
  (hgo:∀ i z H',zs[i]? = some z->Ext H H'->J.go i H'/\∀ x H'',J.yld i H' x H''->Ext H' H''/\P z x H'')
  (hst:∀ H',Ext H H'->J.stop zs.length H')
  (hR1:∀ D z y H1 H2,R D z y H1->Ext H1 H2->R D z y H2) (hR2:∀ D z y H1 o,R D z y H1->R D z y (upd H1 D o))
  (hl:zs.length<=sizeLine)
  (hs:∀ D z x H' N1 N0,z∈zs->H D=none->Ext H H'->(∃ ys,H' D=some (.lst ys))->P z x H'->(c z=true->∀ y H'',Ext H' H''->R D z y H''->N1 y H'')->(c z=false->∀ H'',Ext H' H''->N0 H'')->g x (List.replicate k none++σ) H' (kCm k tt te σ N1 N0))
  (hd:∀ D ys H',H D=none->Ext H H'->H' D=some (.lst ys)->Al (λ z y=>R D z y H') (zs.filter c) ys->Q (.ref D) H'):xE k g tt te σ Q J H:=by
 intro D hD;refine⟨λ i m ys H'=>m=zs.length - i/\i<=zs.length/\Ext H H'/\H' D=some (.lst ys)/\Al (λ z y=>R D z y H') ((zs.take i).filter c) ys,⟨zs.length,by simp,LJ _,Ext.new hD,ah,by simpa using Al.nil⟩,?_⟩;rintro i m ys H' ⟨rfl,hi,e,hD',al⟩
 by_cases hlt:i < zs.length
 ·have hz:zs[i]? = some zs[i]:=KU hlt;obtain⟨go,y⟩:=hgo i zs[i] H' hz e;have tk:zs.take (i+1)=zs.take i++[zs[i]]:=by rw [List.take_succ,hz];rfl
  have ln:ys.length < sizeLine:=by
   have h1:=al.1;have h2:=List.length_filter_le c (zs.take i);simp only [LW] at h2;omega
  refine .inr ⟨go,λ ys' H2=>Ext H H2/\H2 D=some (.lst ys')/\Al (λ z y=>R D z y H2) ((zs.take (i+1)).filter c) ys',λ ys' H2 p=>⟨zs.length - (i+1),by omega,rfl,hlt,p⟩,λ x H2 z=>?_⟩;obtain⟨e2,p2⟩:=y x H2 z;refine hs D zs[i] x H2 (kC3 D ys _) _ (Mm hlt) hD (e.trans e2) ⟨ys,e2.at hD'⟩ p2 (λ hc y H3 e3 r3=>?_) λ hc H3 e3=>?_
  ·refine⟨e3.at (e2.at hD'),ln,(e.trans (e2.trans e3)).put hD,ah,?_⟩;rw [tk,M8,show [zs[i]].filter c=[zs[i]] by simp [hc]];exact Al.snoc (al.imp λ z y r=>hR2 _ _ _ _ _ (hR1 _ _ _ _ _ r (e2.trans e3))) (hR2 _ _ _ _ _ r3)
  ·refine⟨e.trans (e2.trans e3),(e2.trans e3).at hD',?_⟩;rw [tk,M8,show [zs[i]].filter c=[] by simp [hc],MG];exact al.imp λ z y r=>hR1 _ _ _ _ _ r (e2.trans e3)
 ·have e':i=zs.length:=by omega
  subst e';rw [Mw] at al;exact .inl ⟨hst H' e,hd D ys H' hD e hD' al⟩
theorem bM{α:Type}{J:It}(zs:List α)(c:α->Bool)(f:α->V)(P:α->V->Hp->Prop)
  (hgo:∀ i z H',zs[i]? = some z->Ext H H'->J.go i H'/\∀ x H'',J.yld i H' x H''->Ext H' H''/\P z x H'')
  (hst:∀ H',Ext H H'->J.stop zs.length H') (hl:zs.length<=sizeLine)
  (hs:∀ D z x H' N1 N0,z∈zs->H D=none->Ext H H'->P z x H'->(c z=true->∀ H'',Ext H' H''->N1 (f z) H'')->(c z=false->∀ H'',Ext H' H''->N0 H'')->g x (List.replicate k none++σ) H' (kCm k tt te σ N1 N0))
  (hd:∀ D H',H D=none->Ext H H'->H' D=some (.lst ((zs.filter c).map f))->Q (.ref D) H'):xE k g tt te σ Q J H:=
 qg zs c P (λ _ z y _=>y=f z) hgo hst (λ _ _ _ _ _ r _=>r) (λ _ _ _ _ _ r=>r) hl (λ D z x H' N1 N0 hz hD e _ p k1 k0=>hs D z x H' N1 N0 hz hD e p (λ hc H'' e'=>k1 hc _ H'' e' rfl) k0) λ D ys H' hD e hD' al=>hd D H' hD e (by rw [←al.map];exact hD')
theorem ji{lo:Int}{n:Nat}:(∀ i z H',(List.range n)[i]? = some z->Ext H H'->(Itr lo n).go i H'/\∀ x H'',(Itr lo n).yld i H' x H''->Ext H' H''/\x=.int (lo+(z:Nat)))/\∀ H',Ext H H'->(Itr lo n).stop (List.range n).length H':=by
 refine⟨λ i z H' hz _=>?_,λ H' _=>by simp [Itr]⟩;obtain⟨h1,h2⟩:=K0.mp hz;have e:i=z:=by simpa using h2
 subst e;exact⟨(show i < n by simpa using h1),λ x H'' y=>⟨by rw [y.1];exact Ext.refl _,y.2⟩⟩
theorem oX{a:Addr}{xs:List V}(h:H a=some (.lst xs)):(∀ i z H',xs[i]? = some z->Ext H H'->(Itl K a).go i H'/\∀ x H'',(Itl K a).yld i H' x H''->Ext H' H''/\(x=z/\H'' a=some (.lst xs)))/\∀ H',Ext H H'->(Itl K a).stop xs.length H':=
 ⟨λ i z H' hz e=>⟨⟨xs,z,SqL.of (e.at h),hz⟩,λ x H'' y=>⟨by rw [y.1];exact Ext.refl _,LB ((y.2 xs (SqL.of (e.at h))).symm.trans hz),by rw [y.1];exact e.at h⟩⟩,λ H' e=>⟨xs,SqL.of (e.at h),K3 _⟩⟩
theorem EB{a:Addr}{xs:List V}(h:H a=some (.tup xs)):(∀ i z H',xs[i]? = some z->Ext H H'->(Itt K a).go i H'/\∀ x H'',(Itt K a).yld i H' x H''->Ext H' H''/\(x=z/\H'' a=some (.tup xs)))/\∀ H',Ext H H'->(Itt K a).stop xs.length H':=
 ⟨λ i z H' hz e=>⟨⟨xs,z,SqT.of (e.at h),hz⟩,λ x H'' y=>⟨by rw [y.1];exact Ext.refl _,LB ((y.2 xs (SqT.of (e.at h))).symm.trans hz),by rw [y.1];exact e.at h⟩⟩,λ H' e=>⟨xs,SqT.of (e.at h),K3 _⟩⟩
theorem SqK.ext{kk:Bool}{H H':Hp}{a:Addr}{xs:List V}(h:SqK kk H a xs)(e:Ext H H'):SqK kk H' a xs:=by
 cases kk
 ·exact e.at (show H a=some (.lst xs) from h)
 ·exact e.at (show H a=some (.tup xs) from h)
def Ki(z:V × V)(x:V)(H:Hp):Prop:=∃ p,x=.ref p/\H p=some (.tup [z.1,z.2])
theorem Ac{ka kb:Bool}{a b:Addr}{xs ys:List V}(ha:SqK ka H a xs)(hb:SqK kb H b ys):(∀ i z H',(xs.zip ys)[i]? = some z->Ext H H'->(Itz ka kb a b xs ys).go i H'/\∀ x H'',(Itz ka kb a b xs ys).yld i H' x H''->Ext H' H''/\Ki z x H'')/\∀ H',Ext H H'->(Itz ka kb a b xs ys).stop (xs.zip ys).length H':=by
 refine⟨λ i z H' hz e=>?_,λ H' e=>⟨ha.ext e,hb.ext e,?_⟩⟩
 ·obtain⟨h1,h2⟩:=K0.mp hz;rw [Mc] at h1;refine⟨⟨ha.ext e,hb.ext e,by omega,by omega⟩,λ x H'' y=>?_⟩;obtain⟨p,u,v,hp,rfl,hu,hv,rfl⟩:=y;refine⟨Ext.new hp,p,rfl,?_⟩;rw [ah];rw [KU (by omega)] at hu hv;cases hu;cases hv;rw [←h2,N3]
 ·rw [Mc];omega
theorem u4{tb:TS}{nx:St->Hp->Prop}{rt:VK}{bk ct:St->Hp->Prop}{ka kb:Bool}{a b:Addr}{xs ys:List V}(Pv:Nat->St->Hp->Prop)(h0:Pv 0 σ H)(hl:∀ i σ H,Pv i σ H->SqK ka H a xs/\SqK kb H b ys)
  (hs:∀ i u v p σ H H',xs[i]? = some u->ys[i]? = some v->Pv i σ H->H p=none->Ext H H'->H' p=some (.tup [u,v])->g (.ref p) σ H' (tE tb ⟨Pv (i+1),rt,nx,Pv (i+1)⟩)) (hd:∀ σ H,Pv (min xs.length ys.length) σ H->nx σ H):DQ g tb ⟨nx,rt,bk,ct⟩ σ (Itz ka kb a b xs ys) H:=by
 refine⟨λ i m σ H=>m=min xs.length ys.length - i/\i<=min xs.length ys.length/\Pv i σ H,⟨min xs.length ys.length,by simp,LJ _,h0⟩,?_⟩;rintro i m σ H ⟨rfl,hi,p⟩;obtain⟨qa,qb⟩:=hl i σ H p
 by_cases hlt:i < min xs.length ys.length
 ·refine .inr ⟨⟨qa,qb,by omega,by omega⟩,Pv (i+1),λ σ' H' p'=>⟨min xs.length ys.length - (i+1),by omega,rfl,hlt,p'⟩,λ x H' y=>?_⟩;obtain⟨r,u,v,hr,rfl,hu,hv,rfl⟩:=y;exact hs i u v r σ H _ hu hv p hr (Ext.new hr) ah
 ·have e:i=min xs.length ys.length:=by omega
  subst e;exact .inl ⟨⟨qa,qb,by omega⟩,hd σ H p⟩
end
def Ey(sc:Scope)(N:List Str)(scope:Scope)(N':List Str)(k:Nat):Bool:=
 scope.names.all (λ y=>!(y.2 == .cell)) && (scope.kind == .function) && scope.names.all (λ y=>!(y.2 == .local) || scope.names.lookup y.1 == some .local) && scope.names.all (λ y=>!(y.2 == .free) || sc.names.lookup y.1 == some .cell) && decide (N'.length=k+N.length) &&
  ((N'.drop k).zip N).all (λ p=>(!(scope.names.lookup p.1 == some .free) || decide (p.1=p.2)) && !(scope.names.lookup p.1 == some .local))
theorem aP{X:Cx}{scope:Scope}{N':List Str}{k:Nat}(sc:Scope)(N:List Str)(h1:X.env.scope=sc)(h2:X.N=N)(h:Ey sc N scope N' k=true):g7 X scope N' k:=by
 unfold Ey at h;simp only [Bool.and_eq_true,decide_eq_true_eq] at h;obtain⟨⟨⟨⟨⟨a1,a2⟩,a3⟩,a4⟩,a5⟩,a6⟩:=h;rw [List.all_eq_true] at a1 a3 a4 a6
 have pr:∀ i x,N'[k+i]? = some x->∃ y,N[i]? = some y/\(x,y)∈(N'.drop k).zip N:=λ i x hx=>by
  have h0:=(K0.mp hx).1;have hi:i < N.length:=by omega
  have e1:(N'.drop k)[i]? = some x:=by rw [List.getElem?_drop];exact hx
  have e2:N[i]? = some N[i]:=KU hi;refine⟨_,e2,My (i:=i) ?_⟩;rw [LS];exact⟨e1,e2⟩
 refine⟨λ y hy e=>?_,by simpa using a2,λ y hy e=>?_,λ y hy e=>?_,by rw [h2];exact a5,λ i x hx hf=>?_,λ i x hx hf=>?_⟩
 ·have:=a1 y hy;rw [e] at this;simp at this
 ·have:=a3 y hy;rw [e] at this;simpa using this
 ·have:=a4 y hy;rw [e] at this;rw [h1];simpa using this
 ·obtain⟨y,hy,hm⟩:=pr i x hx;have:=a6 _ hm;simp only [hf] at this;rw [h2,hy];simp at this;rw [this]
 ·obtain⟨y,hy,hm⟩:=pr i x hx;have:=a6 _ hm;simp [hf] at this
def Bd(H:Hp)(Q:VK):V->Prop:=λ v=>Q v H
theorem CO(H:Hp)(Q:VK)(v:V):Bd H Q v=Q v H:=rfl
def xD(K:W.Frag)(f:Str)(H:Hp)(Q:VK):HO->Prop:=λ o=>match o with
 | .ins C dx fs=>Cls K C/\dP K C f/\aO (fs.lookup f) (Bd H Q)
 | _=>False
theorem CP(K:W.Frag)(f:Str)(H:Hp)(Q:VK)(C dx:Addr)(fs:List (Str × V)):xD K f H Q (.ins C dx fs)=(Cls K C/\dP K C f/\aO (fs.lookup f) (Bd H Q)):=rfl
def DR(K:W.Frag)(f:Str)(Q:VK):VK:=λ x H=>match x with
 | .ref a=>aO (H a) (xD K f H Q)
 | _=>False
theorem Gp(K:W.Frag)(f:Str)(Q:VK)(a:Addr)(H:Hp):DR K f Q (.ref a) H=aO (H a) (xD K f H Q):=rfl
def JI(K:W.Frag)(ta:TE)(f:Str):TE:=λ σ H Q=>ta σ H (DR K f Q)
theorem FU(K:W.Frag)(ta:TE)(f:Str)(σ:St)(H:Hp)(Q:VK):JI K ta f σ H Q=ta σ H (DR K f Q):=rfl
theorem Df{K:W.Frag}{f:Str}{Q:VK}{x:V}{H:Hp}(h:DR K f Q x H):∃ a C dx fs v,x=.ref a/\H a=some (.ins C dx fs)/\Cls K C/\dP K C f/\fs.lookup f=some v/\Q v H:=by
 unfold DR at h;split at h
 ·obtain⟨o,e,h⟩:=au h;unfold xD at h;split at h
  ·obtain⟨c,n,h⟩:=h;obtain⟨v,l,q⟩:=au h;exact⟨_,_,_,_,v,rfl,e,c,n,l,q⟩
  ·exact h.elim
 ·exact h.elim
section
variable {X:Cx}{e o value:Expr}{ta tv:TE}{f:Str}{pos pos':Pos}
theorem BL(he:PE X e ta)(hb:attributeBase e f X.env (eval e X.env)=eval e X.env):PE X (.Attribute e f pos) (JI X.K ta f):=by
 intro pins s σ H Q I h;refine DB hb (thn (he pins s σ H _ I h) λ u s1 ⟨x,H1,I1,rx,q1⟩=>?_);obtain⟨a,C,dx,fs,v,ex,ea,c,n,l,q⟩:=Df q1;subst ex;obtain rfl:u=Value.ref a:=rx;exact rS I1 ea c n l λ u' s2 I2 ru=>⟨v,H1,I2,ru,q⟩
def xB(K:W.Frag)(f:Str)(y:V)(a:Addr)(σ:St)(nx:St->Hp->Prop)(H:Hp):HO->Prop:=λ o=>match o with
 | .ins C dx fs=>Cls K C/\dP K C f/\fs.length < 1000/\nx σ (upd H a (.ins C dx (eE f y fs)))
 | _=>False
theorem CB(K:W.Frag)(f:Str)(y:V)(a:Addr)(σ:St)(nx:St->Hp->Prop)(H:Hp)(C dx:Addr)(fs:List (Str × V)):xB K f y a σ nx H (.ins C dx fs)=(Cls K C/\dP K C f/\fs.length < 1000/\nx σ (upd H a (.ins C dx (eE f y fs)))):=rfl
def xC(K:W.Frag)(f:Str)(y:V)(σ:St)(nx:St->Hp->Prop):VK:=λ x H=>match x with
 | .ref a=>aO (H a) (xB K f y a σ nx H)
 | _=>False
theorem CD(K:W.Frag)(f:Str)(y:V)(σ:St)(nx:St->Hp->Prop)(a:Addr)(H:Hp):xC K f y σ nx (.ref a) H=aO (H a) (xB K f y a σ nx H):=rfl
def A8(K:W.Frag)(f:Str)(ta:TE)(σ:St)(nx:St->Hp->Prop):VK:=λ y H=>ta σ H (xC K f y σ nx)
theorem CF(K:W.Frag)(f:Str)(ta:TE)(σ:St)(nx:St->Hp->Prop)(y:V)(H:Hp):A8 K f ta σ nx y H=ta σ H (xC K f y σ nx):=rfl
def Ei(K:W.Frag)(ta tv:TE)(f:Str):TS:=λ D σ H=>tv σ H (A8 K f ta σ D.nx)
theorem Co(K:W.Frag)(ta tv:TE)(f:Str)(nx:St->Hp->Prop)(rt:VK)(bk ct:St->Hp->Prop)(σ:St)(H:Hp):Ei K ta tv f ⟨nx,rt,bk,ct⟩ σ H=tv σ H (A8 K f ta σ nx):=rfl
theorem kG(ha:PE X o ta)(hv:PE X value tv)(hs:swapsWith value (some (.Attribute o f pos')) pos.line X.env=pure false):PS X (.Assign [.Attribute o f pos'] value pos) (Ei X.K ta tv f):=by
 intro pins s σ H D I h;refine plainObj_wpAny_Assign_Attribute (thn (hv pins s σ H _ I h) λ u s1 ⟨y,H1,I1,ry,q⟩=>thn (ha pins s1 σ H1 _ I1 q) λ ov s2 ⟨x,H2,I2,rx,q1⟩=>?_) hs;unfold xC at q1;split at q1
 ·rename_i a;obtain rfl:ov=Value.ref a:=rx;obtain⟨ob,ea,q1⟩:=au q1;unfold xB at q1;split at q1
  ·obtain⟨c,n,l,q2⟩:=q1;exact qP I2 ea c n l ry λ s3 I3=>⟨σ,_,I3,q2⟩
  ·exact q1.elim
 ·exact q1.elim
end
def uq(sp:Sp)(dvs:List V)(E:XK)(a:Addr)(Q:VK):List V->Hp->Prop:=λ vs H=>sp (.ref a::(vs++dvs)) H Q E
theorem rq(sp:Sp)(dvs:List V)(E:XK)(a:Addr)(Q:VK)(H:Hp):uq sp dvs E a Q [] H=sp (.ref a::dvs) H Q E:=rfl
def ph(C:Addr)(m:Str)(sp:Sp)(dvs:List V)(E:XK)(t:TA)(σ:St)(Q:VK)(a:Addr)(H:Hp):HO->Prop:=λ o=>match o with
 | .ins C' dx fs=>C'=C/\fs.lookup m=none/\t σ H (uq sp dvs E a Q)
 | _=>False
theorem yx(C:Addr)(m:Str)(sp:Sp)(dvs:List V)(E:XK)(t:TA)(σ:St)(Q:VK)(a:Addr)(H:Hp)(dx:Addr)(fs:List (Str × V)):ph C m sp dvs E t σ Q a H (.ins C dx fs)=(fs.lookup m=none/\t σ H (uq sp dvs E a Q)):=propext ⟨λ h=>h.2,λ h=>⟨rfl,h⟩⟩
def tu(C:Addr)(m:Str)(sp:Sp)(dvs:List V)(E:XK)(t:TA)(σ:St)(Q:VK):VK:=λ x H=>match x with
 | .ref a=>aO (H a) (ph C m sp dvs E t σ Q a H)
 | _=>False
theorem CL(C:Addr)(m:Str)(sp:Sp)(dvs:List V)(E:XK)(t:TA)(σ:St)(Q:VK)(a:Addr)(H:Hp):tu C m sp dvs E t σ Q (.ref a) H=aO (H a) (ph C m sp dvs E t σ Q a H):=rfl
def Ej(C:Addr)(m:Str)(sp:Sp)(dvs:List V)(E:XK)(ta:TE)(t:TA):TE:=λ σ H Q=>ta σ H (tu C m sp dvs E t σ Q)
theorem Cq(C:Addr)(m:Str)(sp:Sp)(dvs:List V)(E:XK)(ta:TE)(t:TA)(σ:St)(H:Hp)(Q:VK):Ej C m sp dvs E ta t σ H Q=ta σ H (tu C m sp dvs E t σ Q):=rfl
theorem y7{C:Addr}{m:Str}{sp:Sp}{dvs:List V}{E:XK}{t:TA}{σ:St}{Q:VK}{x:V}{H:Hp}(h:tu C m sp dvs E t σ Q x H):∃ a dx fs,x=.ref a/\H a=some (.ins C dx fs)/\fs.lookup m=none/\t σ H λ vs H2=>sp (x::(vs++dvs)) H2 Q E:=by
 unfold tu at h;split at h
 ·obtain⟨o,e,h⟩:=au h;unfold ph at h;split at h
  ·obtain⟨rfl,l,h⟩:=h;exact⟨_,_,_,rfl,e,l,h⟩
  ·exact h.elim
 ·exact h.elim
section
variable {X:Cx}{CX:CXT}{k:Nat}{f C:Addr}{fd:FuncData}{ps:List Str}{sp:Sp}{dvs:List V}{ds:List Value}{E:XK}{x m:Str}{p pos apos:Pos}{e o:Expr}{es:List Expr}{ta:TE}{t:TA}
theorem lZ{pl:Sem Bool}(he:PE X o ta)(c:Cls X.K C)(hm:AJ X.K C m f)(F:bC X.prog X.w X.K X.mg X.base CX k f fd ps sp)(hr:gE k X.A)(hb:aA X.K fd ps ds)(hd:aT dvs ds)(hx:jl CX X E)
  (ht:eval (.Call (.Attribute o m apos) [] [] pos) X.env=(do
   let ov ←eval o X.env
   standAt apos.atName
   let (f,first) ←holding [ov] (getMethod ov m pl)
   callWith pos f first (backTo pos (starEach [] X.env)) (backToKw pos (keywordEach [] X.env))):=by rfl) :
  PE X (.Call (.Attribute o m apos) [] [] pos) (Ej C m sp dvs E ta DK):=by
 intro pins s σ H Q I h;refine W.methodCall_KW (pl:=pl) (thn (he pins s σ H _ I h) λ u s1 ⟨x,H1,I1,rx,q0⟩=>?_) ht;obtain⟨a,dx,fs,ex,ea,l,q⟩:=y7 q0;subst ex;obtain rfl:u=Value.ref a:=rx;refine rR I1 ea c hm l ?_;exact W.callWith_K0 (first:=[.ref a]) I1.kIn hm.kp (Ai (us:=[.ref a]) (vs:=[.ref a]) F hr hb hd hx I1 (.cons rfl .nil) q)
end
def Bb(x:Addr)(Q:VK):VK:=λ v H=>v=.non/\Q (.ref x) H
theorem CM(x:Addr)(Q:VK)(H:Hp):Bb x Q .non H=Q (.ref x) H:=propext ⟨λ h=>h.2,λ h=>⟨rfl,h⟩⟩
def tw(C:Addr)(sp:Sp)(dvs:List V)(E:XK)(Q:VK):List V->Hp->Prop:=λ vs H=>∀ (x dx:Addr) (H':Hp),H x=none->H dx=none->dx ≠ x->Ext H H'->H' x=some (.ins C dx [])->H' dx=some (.own x)->sp (.ref x::(vs++dvs)) H' (Bb x Q) E
theorem vQ(C:Addr)(sp:Sp)(dvs:List V)(E:XK)(Q:VK)(a b c:V)(H:Hp):tw C sp dvs E Q [a,b,c] H=∀ (x dx:Addr) (H':Hp),H x=none->H dx=none->dx ≠ x->Ext H H'->H' x=some (.ins C dx [])->H' dx=some (.own x)->sp (.ref x::a::b::c::dvs) H' (Bb x Q) E:=rfl
def Ek(C:Addr)(sp:Sp)(dvs:List V)(E:XK)(t:TA):TE:=λ σ H Q=>t σ H (tw C sp dvs E Q)
theorem Cr(C:Addr)(sp:Sp)(dvs:List V)(E:XK)(t:TA)(σ:St)(H:Hp)(Q:VK):Ek C sp dvs E t σ H Q=t σ H (tw C sp dvs E Q):=rfl
section
variable {X:Cx}{CX:CXT}{k:Nat}{f C:Addr}{fd:FuncData}{ps:List Str}{sp:Sp}{dvs:List V}{ds:List Value}{E:XK}{x m:Str}{p pos apos:Pos}{e o:Expr}{es:List Expr}{ta:TE}{t:TA}
theorem tw.to{Q:VK}{vs:List V}{H:Hp}(h:tw C sp dvs E Q vs H):∀ x dx,H x=none->H dx=none->dx ≠ x->sp (.ref x::(vs++dvs)) (upd (upd H dx (.own x)) x (.ins C dx [])) (λ v H2=>v=.non/\Q (.ref x) H2) E:=λ x dx hx hd ne=>
 h x dx _ hx hd ne ((Ext.new hd).put hx) ah (by rw [ae ne,ah])
theorem pY(M:Mk X.K C f)(F:bC X.prog X.w X.K X.mg X.base CX k f fd ps sp)(hr:gE (k+1) X.A)(hg:Gl X x)(hm:X.mg x=some (.ref C))(hb:aA X.K fd ps ds)(hd:aT dvs ds)(hx:jl CX X E)
  (ha:PA X (e::es) t) (hdb:(x == ("__debug__":Str))=false:=by decide) (he:starEach (e::es) X.env=(false,eval e X.env)::starEach es X.env:=by rfl) (hpl:(backTo pos (starEach es X.env)).any (·.1)=false:=by rfl) :
  PE X (.Call (.Name x p) (e::es) [] pos) (Ek C sp dvs E t):=by
 intro pins s σ H Q I h;refine Mv (og I hg hm ?_ hdb);refine W.callWith_K (h₀:=X.base) I.ok.mod.kin M.kp (thn (ha pos pins s σ H _ I h) λ us s1 ⟨vs,H1,I1,r,q⟩=>⟨I1.kIn,?_⟩) he hpl;exact xV M F hr hb hd hx I1 r q.to
end
def uQ:Expr->Bool
 | .Starred ..=>false
 | _=>true
theorem Bv{e:Expr}{es:List Expr}{env:Env}(h:uQ e=true):starEach (e::es) env=(false,eval e env)::starEach es env:=by
 cases e<;>first|rfl|cases h
theorem DO{X:Cx}{e:Expr}{es:List Expr}{te:TE}{t:TA}(ha:PE X e te)(hr:PA X es t)(hn:uQ e=true:=by rfl):PA X (e::es) (sU te t):=BS ha hr (Bv hn)
def AH(H:Hp)(z:List Int)(y:V):Prop:=∃ q,y=.ref q/\H q=some (.tup (z.map V.int))
theorem AH.ext{H H':Hp}{z:List Int}{y:V}(h:AH H z y)(e:Ext H H'):AH H' z y:=by
 obtain⟨q,rfl,hq⟩:=h;exact⟨q,rfl,e.at hq⟩
def cJ(H:Hp)(p:Addr)(zs:List (List Int)):Prop:=∃ ys,H p=some (.lst ys)/\Al (AH H) zs ys
theorem cJ.ext{H H':Hp}{p:Addr}{zs:List (List Int)}(h:cJ H p zs)(e:Ext H H'):cJ H' p zs:=by
 obtain⟨ys,hp,al⟩:=h;exact⟨ys,e.at hp,al.imp λ _ _ r=>r.ext e⟩
theorem pG{H:Hp}{f:V->Option PyData}:∀ {zs:List (List Int)}{ys:List V},Al (AH H) zs ys->aR (ys.map (eS H (eS H f)))=some (zs.map λ z=>PyData.tuple (z.map PyData.int))
 | [],ys,h=>by rw [List.eq_nil_of_length_eq_zero h.1];rfl
 | z::zs,[],h=>by have:=h.1;simp at this
 | z::zs,y::ys,h=>by
  obtain⟨q,rfl,hq⟩:=h.2 0 z y rfl rfl;have ih:=pG (H:=H) (f:=f) (zs:=zs) (ys:=ys) ⟨by have:=h.1;simpa using this,λ i z y a b=>h.2 (i+1) z y (by simpa using a) (by simpa using b)⟩
  have e1:eS H (eS H f) (.ref q)=some (.tuple (z.map PyData.int)):=by
   rw [gf,hq]
   show zX (eS H f) (.tup (z.map V.int))=_
   rw [gc,gw];rfl
  rw [LG,e1,da,ih];rfl
theorem az{n:Nat}(h:n<=5000):n<=sizeLine:=LU h (by decide)
theorem dY{n:Nat}(h:n < 5000):n < sizeLine:=Le h (by decide)
def HR(xs:List V)(H:Hp)(Q:VK):List V->Prop:=λ ys=>xs.length+ys.length<=sizeLine/\∀ (p:Addr) (H':Hp),Ext H H'->H' p=some (.tup (xs++ys))->Q (.ref p) H'
theorem EA(xs:List V)(H:Hp)(Q:VK)(ys:List V):HR xs H Q ys=(xs.length+ys.length<=sizeLine/\∀ (p:Addr) (H':Hp),Ext H H'->H' p=some (.tup (xs++ys))->Q (.ref p) H'):=rfl
def HS(b:Addr)(H:Hp)(Q:VK):List V->Prop:=λ xs=>aO (gT H b) (HR xs H Q)
theorem Gy(b:Addr)(H:Hp)(Q:VK)(xs:List V):HS b H Q xs=aO (gT H b) (HR xs H Q):=rfl
def AZ:R2:=λ x y H Q=>match x,y with
 | .ref l,.ref b=>aO (gT H l) (HS b H Q)
 | _,_=>False
theorem Cu(l b:Addr)(H:Hp)(Q:VK):AZ (.ref l) (.ref b) H Q=aO (gT H l) (HS b H Q):=rfl
theorem yk{X:Cx}:OpR X (binaryOp .Add) AZ:=by
 intro pins s σ H x y v u Q I rx ry h;unfold AZ at h;split at h
 ·rename_i l b;obtain⟨xs,e1,h⟩:=au h;obtain⟨ys,e2,hz,k⟩:=au h;have g1:=oY e1;have g2:=oY e2
  by_cases hx:xs=[]
  ·subst hx;cases rx;cases ry;obtain⟨its,r1,p1,_⟩:=I.tuple (SqT.of g1);obtain⟨its2,r2,p2,_⟩:=I.tuple (SqT.of g2);obtain⟨⟨cls,dd,data,sl⟩,ho,hc,n,hd⟩:=id p1;obtain⟨⟨cls2,dd2,data2,sl2⟩,ho2,hc2,n2,hd2⟩:=id p2;simp only at hc hd hc2 hd2;subst hc hd hc2 hd2;cases r1
   exact concat_meets ⟨_,ho,rfl⟩ ⟨_,ho2,rfl⟩ noFill_tuple_add seq_tuple_add Nt Nh (Nf _ _)
    (tuple_addW0 l b #[] its2.toArray n n2 dd dd2 sl sl2 (by simp)) ⟨ho,ho2,show EP X pins σ Q (.ref b) s from ⟨.ref b,H,I,rfl,k b H (Ext.refl _) (by rw [List.nil_append];exact g2)⟩⟩
  ·refine BX pins s σ H (.ref l) (.ref b) v u Q I rx ry ⟨l,b,xs,ys,rfl,rfl,SqT.of g1,SqT.of g2,hx,hz,λ hy=>?_,λ hy p hp=>k p _ (Ext.new hp) ah⟩;subst hy;exact k l H (Ext.refl _) (by rw [MG];exact g1)
 ·exact h.elim
theorem jQ{K:W.Frag}{H:Hp}{α:Type}{R:α->V->Hp->Prop}(hR:∀ z y H H',R z y H->Ext H H'->R z y H'){l:Addr}{ys:List V}{zs:List α}(h:H l=some (.lst ys))(al:Al (λ z y=>R z y H) zs ys) :
  (∀ i z H',zs[i]? = some z->Ext H H'->(Itl K l).go i H'/\∀ x H'',(Itl K l).yld i H' x H''->Ext H' H''/\R z x H'')/\∀ H',Ext H H'->(Itl K l).stop zs.length H':=by
 refine⟨λ i z H' hz e=>?_,λ H' e=>⟨ys,SqL.of (e.at h),by rw [al.1];exact K3 _⟩⟩;have hi:i < ys.length:=by rw [al.1];exact(K0.mp hz).1
 have hy:ys[i]? = some ys[i]:=KU hi;refine⟨⟨ys,ys[i],SqL.of (e.at h),hy⟩,λ x H'' y=>?_⟩;have hx:x=ys[i]:=LB ((y.2 ys (SqL.of (e.at h))).symm.trans hy);refine⟨by rw [y.1];exact Ext.refl _,?_⟩;rw [hx,y.1];exact hR _ _ _ _ (al.2 i z _ hz hy) e
def axP(a:Int × Int)(x:V)(H:Hp):Prop:=∃ q,x=.ref q/\H q=some (.tup [.int a.1,.int a.2])
theorem axP.ext{a:Int × Int}{x:V}{H H':Hp}(h:axP a x H)(e:Ext H H'):axP a x H':=by
 obtain⟨q,rfl,hq⟩:=h;exact⟨q,rfl,e.at hq⟩
theorem lP{H:Hp}{axs:List (Int × Int)}{ys:List V}(al:Al (AH H) (axs.map λ a=>[a.1,a.2]) ys):Al (λ a y=>axP a y H) axs ys:=by
 refine⟨by rw [al.1,K2],λ i a y ha hy=>?_⟩;obtain⟨q,hq,h⟩:=al.2 i [a.1,a.2] y (by rw [Lh,ha];rfl) hy;exact⟨q,hq,h⟩
section
variable {prog:Program}{w:World}{A:Around}{E:Value->Shared->Prop}{s:Shared}
variable {z TI TO i j:Addr}{f g:List Addr}{ti tj:Nat->Heap->Prop}{vi vj:Nat->Option Value}{k m:Nat}{x y:Value}{t:Addr}{fl:Bool}{ot:Obj}
variable {ka kb:Bool}{a b p q:Addr}{as bs:Array Value}{n:Nat}
end
section
variable {X:Cx}{pins:List (Addr × Obj)}{σ:St}{s:Shared}
end
section
variable {X:Cx}
end
section
variable {X:Cx}
end
def Be(l:Addr)(xs:List V)(H:Hp)(Q:VK):List V->Prop:=λ zs=>xs.length+zs.length<=sizeLine/\Q .non (upd H l (.lst (xs++zs)))
theorem CQ(l:Addr)(xs:List V)(H:Hp)(Q:VK)(zs:List V):Be l xs H Q zs=(xs.length+zs.length<=sizeLine/\Q .non (upd H l (.lst (xs++zs)))):=rfl
def Ep(l b:Addr)(H:Hp)(Q:VK):List V->Prop:=λ xs=>aO (aD H b) (Be l xs H Q)
theorem CS(l b:Addr)(H:Hp)(Q:VK)(xs:List V):Ep l b H Q xs=aO (aD H b) (Be l xs H Q):=rfl
theorem vO(l b:Addr)(H:Hp)(Q:VK):uF (.ref l) [.ref b] H Q=aO (aD H l) (Ep l b H Q):=by
 refine propext ⟨λ h=>?_,λ h=>?_⟩
 ·obtain⟨l',b',xs,zs,e1,e2,h1,h2,h3,q⟩:=h;cases e1;cases e2;unfold aD;rw [h1]
  show aO (aD H b) _
  unfold aD;rw [h2];exact⟨h3,q⟩
 ·obtain⟨xs,e,h⟩:=au h;obtain⟨zs,e2,h3,q⟩:=au h;exact⟨l,b,xs,zs,rfl,rfl,cI e,cI e2,h3,q⟩
section
variable {X:Cx}{a b c d:Expr}{ta tb tc td:TE}{pos:Pos}
end
section
variable {k:Nat}{g:TG}{tt:TT}{te:TE}{σ:St}{Q:VK}{H:Hp}{K:PySem.W.Frag}
theorem dg{α:Type}{J:It}(zs:List α)(c:α->Bool)(P:α->V->Hp->Prop)(R:Addr->α->V->Hp->Prop)
  (hgo:∀ i z H',zs[i]? = some z->Ext H H'->J.go i H'/\∀ x H'',J.yld i H' x H''->Ext H' H''/\P z x H'')
  (hst:∀ H',Ext H H'->J.stop zs.length H')
  (hR1:∀ D z y H1 H2,R D z y H1->Ext H1 H2->R D z y H2) (hR2:∀ D z y H1 xs o,R D z y H1->H1 D=some (.lst xs)->R D z y (upd H1 D o))
  (hl:zs.length<=sizeLine)
  (hs:∀ D z x H' N1 N0,z∈zs->H D=none->Ext H H'->(∃ ys,H' D=some (.lst ys))->P z x H'->(c z=true->∀ y H'',Ext H' H''->R D z y H''->N1 y H'')->(c z=false->∀ H'',Ext H' H''->N0 H'')->g x (List.replicate k none++σ) H' (kCm k tt te σ N1 N0))
  (hd:∀ D ys H',H D=none->Ext H H'->H' D=some (.lst ys)->Al (λ z y=>R D z y H') (zs.filter c) ys->Q (.ref D) H'):xE k g tt te σ Q J H:=by
 intro D hD;refine⟨λ i m ys H'=>m=zs.length - i/\i<=zs.length/\Ext H H'/\H' D=some (.lst ys)/\Al (λ z y=>R D z y H') ((zs.take i).filter c) ys,⟨zs.length,by simp,LJ _,Ext.new hD,ah,by simpa using Al.nil⟩,?_⟩;rintro i m ys H' ⟨rfl,hi,e,hD',al⟩
 by_cases hlt:i < zs.length
 ·have hz:zs[i]? = some zs[i]:=KU hlt;obtain⟨go,y⟩:=hgo i zs[i] H' hz e;have tk:zs.take (i+1)=zs.take i++[zs[i]]:=by rw [List.take_succ,hz];rfl
  have ln:ys.length < sizeLine:=by
   have h1:=al.1;have h2:=List.length_filter_le c (zs.take i);simp only [LW] at h2;omega
  refine .inr ⟨go,λ ys' H2=>Ext H H2/\H2 D=some (.lst ys')/\Al (λ z y=>R D z y H2) ((zs.take (i+1)).filter c) ys',λ ys' H2 p=>⟨zs.length - (i+1),by omega,rfl,hlt,p⟩,λ x H2 z=>?_⟩;obtain⟨e2,p2⟩:=y x H2 z;refine hs D zs[i] x H2 (kC3 D ys _) _ (Mm hlt) hD (e.trans e2) ⟨ys,e2.at hD'⟩ p2 (λ hc y H3 e3 r3=>?_) λ hc H3 e3=>?_
  ·refine⟨e3.at (e2.at hD'),ln,(e.trans (e2.trans e3)).put hD,ah,?_⟩;rw [tk,M8,show [zs[i]].filter c=[zs[i]] by simp [hc]];exact Al.snoc (al.imp λ z y r=>hR2 _ _ _ _ _ _ (hR1 _ _ _ _ _ r (e2.trans e3)) (e3.at (e2.at hD'))) (hR2 _ _ _ _ _ _ r3 (e3.at (e2.at hD')))
  ·refine⟨e.trans (e2.trans e3),(e2.trans e3).at hD',?_⟩;rw [tk,M8,show [zs[i]].filter c=[] by simp [hc],MG];exact al.imp λ z y r=>hR1 _ _ _ _ _ r (e2.trans e3)
 ·have e':i=zs.length:=by omega
  subst e';rw [Mw] at al;exact .inl ⟨hst H' e,hd D ys H' hD e hD' al⟩
end
def Ite(l:Addr)(xs:List V):It:=
 ⟨λ i H=>H l=some (.lst xs)/\i < xs.length,λ i H x H'=>∃ p u,H p=none/\x=.ref p/\xs[i]? = some u/\H'=upd H p (.tup [.int (i:Int),u]),λ i H=>H l=some (.lst xs)/\i=xs.length⟩
def Tne(l e it:Addr)(i:Nat)(h:Heap):Prop:=(∃ old,IsEnum h e it (i:Int) old)/\h.IsListIter it l i
theorem vx{P:Program}{w:World}{K:PySem.W.Frag}{elts:List Expr}{x1}{tp:Pos}(l e it:Addr)(xs:List V)(ne:e ≠ it):zZ P w K (.Tuple elts x1 tp) (Ite l xs) [e,it] e (Tne l e it) where
 mem:=K1
 obj:=λ i h st c hc=>by
  obtain⟨⟨old,e1⟩,e2⟩:=st;simp only [Ls,LI,Mo] at hc
  rcases hc with rfl|rfl
  ·exact⟨_,e1,λ v z=>by cases z⟩
  ·obtain⟨o,e,_,d⟩:=e2;exact⟨o,e,λ v z=>by rw [d] at z;cases z⟩
 keep:=λ i h h' st k=>by
  obtain⟨⟨old,e1⟩,e2⟩:=st;exact⟨⟨old,k e (by simp) _ e1⟩,e2.at λ o q=>k it (by simp) o q⟩
 item:=by
  intro X hP hw hK hc i pins s σ H E I hf st hg;subst hP hw hK;obtain⟨ha,l1⟩:=hg;obtain⟨as,ra,pl,_⟩:=I.list (SqL.of ha);have hx:xs[i]? = some xs[i]:=KU l1;obtain⟨u,hu,ru⟩:=ra.get hx;have free:∀ c∈[e,it],H c=none:=λ c h=>(hf c h).1;have nle:l ≠ e:=λ z=>by have:=free e (by simp);rw [←z,ha] at this;cases this
  have nlt:l ≠ it:=λ z=>by have:=free it (by simp);rw [←z,ha] at this;cases this
  have W:=WalksT.enumerate (prog:=X.prog) (w:=X.w) (I.ok.hd hc) e it l ne nle nlt as.toArray;have la:=ra.length;obtain⟨e1,e2⟩:=st;obtain⟨old,e1'⟩:=e1;refine W.item i s _ E (by simp;omega) ⟨⟨old,e1'⟩,e2,pl.isList⟩ λ T vals h1 tk hp hle hT hmid kp=>⟨_,rfl,?_⟩;refine W.go elts x1 tp i T ⟨h1,s.gens,s.drawn,tk,s.os⟩ _ E hmid λ h2 st2 kp2=>?_;have nT:=W.apart i T h1 hmid;obtain⟨tk',x,hx',rfl⟩:=hp
  have hxu:x=u:=by
   have:as[i]? = some x:=by simpa using hx'
   rw [hu] at this;exact(LB this).symm
  subst hxu;have hT2:h2.IsTuple T #[.int (i:Int) tk',x]:=hT.at λ o q=>kp2 T o nT q;have I2:Inv X pins σ (upd H T (.tup [.int (i:Int),xs[i]])) { s with heap:=h2,toks:=tk }:=I.turnNew (t':=tk) (ch:=[e,it]) (λ c hc=>hf c hc) (λ c o hc q=>kp2 c o hc (kp c o hc q)) hle ⟨(show 2<=sizeLine by decide),[.int (i:Int) tk',x],.cons ⟨tk',rfl⟩ (.cons ru .nil),hT2⟩;have fr:H T=none:=I.hok.fresh hle;refine⟨.ref T,_,I2,rfl,⟨_,_,fr,rfl,hx,rfl⟩,⟨st2.1,st2.2.1⟩,λ c hc=>?_⟩
  have hlt:c < s.heap.objs.size:=by
   simp only [Ls,LI,Mo] at hc
   rcases hc with rfl|rfl
   ·exact K6 e1'
   ·obtain⟨o,q,_⟩:=e2;exact K6 q
  rw [ae (Lf (Le hlt hle))];exact free c hc
 done:=by
  intro X hP hw hK hc i pins s σ H E I hf st hg;subst hP hw hK;obtain⟨ha,rfl⟩:=hg;obtain⟨as,ra,pl,_⟩:=I.list (SqL.of ha);have free:∀ c∈[e,it],H c=none:=λ c h=>(hf c h).1;have nle:l ≠ e:=λ z=>by have:=free e (by simp);rw [←z,ha] at this;cases this
  have nlt:l ≠ it:=λ z=>by have:=free it (by simp);rw [←z,ha] at this;cases this
  have W:=WalksT.enumerate (prog:=X.prog) (w:=X.w) (I.ok.hd hc) e it l ne nle nlt as.toArray;have la:=ra.length;have hsz:as.toArray.size=xs.length:=by simp [la]
  obtain⟨e1,e2⟩:=st;refine W.done s _ E (by rw [hsz];exact⟨e1,e2,pl.isList⟩) λ h' tk kp=>⟨rfl,I.turnL (t':=tk) (ch:=[e,it]) (λ c hc=>hf c hc) kp⟩
 self:=λ A i s Q E st h=>by
  obtain⟨⟨old,e1⟩,e2⟩:=st;exact wpAny_pyIter_enum e1 h
def HL(l:Addr)(H:Hp)(R:It->Hp->Prop):List V->Prop:=λ xs=>R (Ite l xs) H
theorem Gr(l:Addr)(H:Hp)(R:It->Hp->Prop)(xs:List V):HL l H R xs=R (Ite l xs) H:=rfl
def Hi(R:It->Hp->Prop):List V->Hp->Prop:=λ vs H=>match vs with
 | [.ref l]=>aO (aD H l) (HL l H R)
 | _=>False
theorem Gs(R:It->Hp->Prop)(l:Addr)(H:Hp):Hi R [.ref l] H=aO (aD H l) (HL l H R):=rfl
def Eu(ta:TA):TI:=λ σ H R=>ta σ H (Hi R)
theorem C8(ta:TA)(σ:St)(H:Hp)(R:It->Hp->Prop):Eu ta σ H R=ta σ H (Hi R):=rfl
section
variable {X:Cx}
theorem BG{a:Expr}{elts:List Expr}{x1}{tp:Pos}{ta:TA}{p pos:Pos}(hg:Gl X "enumerate")(hm:X.mg "enumerate"=none)(ha:PA X [a] ta)(he:starEach [a] X.env=[(false,eval a X.env)]:=by rfl) :
  PI X (.Tuple elts x1 tp) (.Call (.Name "enumerate" p) [a] [] pos) (Eu ta):=by
 intro pins s σ H R I h;refine Call_ (ft I hg hm (show bootBuiltins "enumerate"=some (.type "enumerate") by decide +kernel) (PyProof.Rows.callWith_type1 (thn (ha pos pins s σ H _ I h) λ us s1 ⟨vs,H1,I1,r1,q1⟩=>?_) (by rw [he];rfl) (by rfl)));unfold Hi at q1;split at q1
 ·rename_i l;obtain⟨xs,e,q⟩:=au q1;replace e:=cI e
  cases r1 with
  | cons r rr=>
   cases rr;cases r;obtain⟨as,ra,pl,_⟩:=I1.list (SqL.of e);refine call_enumerate_list pl.isList λ h' e1 e2 e3 e4=>?_;have I2:Inv X pins σ H1 { s1 with heap:=h' }:=I1.kept (t':=s1.toks) e4;refine wpAny_pyIter_enum (s:={ s1 with heap:=h' }) e1 ⟨s1.heap.objs.size+1,[s1.heap.objs.size+1,s1.heap.objs.size],_,_,H1,rfl,I2,vx l (s1.heap.objs.size+1) s1.heap.objs.size xs (by simp),⟨⟨_,e1⟩,e2⟩,λ c hc=>?_,q⟩
   have hle:s1.heap.objs.size<=c:=by
    simp only [Ls,LI,Mo] at hc
    rcases hc with rfl|rfl
    ·exact MZ ..
    ·exact K3 _
   exact I1.fpOk hle (I1.hok.fresh hle)
 ·exact q1.elim
end
section
variable {g:TG}{σ:St}{Q:VK}{H:Hp}{K:PySem.W.Frag}
theorem zv{tb:TS}{nx:St->Hp->Prop}{rt:VK}{bk ct:St->Hp->Prop}{l:Addr}{xs:List V}(Pv:Nat->St->Hp->Prop)(h0:Pv 0 σ H)(hl:∀ i σ H,Pv i σ H->H l=some (.lst xs))
  (hs:∀ i u p σ H H',xs[i]? = some u->Pv i σ H->H p=none->Ext H H'->H' p=some (.tup [.int (i:Int),u])->g (.ref p) σ H' (tE tb ⟨Pv (i+1),rt,nx,Pv (i+1)⟩)) (hd:∀ σ H,Pv xs.length σ H->nx σ H):DQ g tb ⟨nx,rt,bk,ct⟩ σ (Ite l xs) H:=by
 refine⟨λ i m σ H=>m=xs.length - i/\i<=xs.length/\Pv i σ H,⟨xs.length,by simp,LJ _,h0⟩,?_⟩;rintro i m σ H ⟨rfl,hi,p⟩;have qa:=hl i σ H p
 by_cases hlt:i < xs.length
 ·refine .inr ⟨⟨qa,hlt⟩,Pv (i+1),λ σ' H' p'=>⟨xs.length - (i+1),by omega,rfl,hlt,p'⟩,λ x H' y=>?_⟩;obtain⟨r,u,hr,rfl,hu,rfl⟩:=y;exact hs i u r σ H _ hu p hr (Ext.new hr) ah
 ·have e:i=xs.length:=by omega
  subst e;exact .inl ⟨⟨qa,rfl⟩,hd σ H p⟩
end
section
variable {X:Cx}{CX:CXT}{k:Nat}{f C:Addr}{fd:FuncData}{ps:List Str}{sp:Sp}{dvs:List V}{ds:List Value}{E:St->XK}{x m:Str}{p pos apos:Pos}{e o:Expr}{es:List Expr}{ta:TE}{t:TA}
end
section
variable {X:Cx}{e st:Expr}{te tst:TE}{pos p2:Pos}
end
section
variable {X:Cx}
end
theorem cG{n:Nat}(h:n+64 < cLine):n+1 < cLine:=by omega
def HP(Q:VK)(x:V):VK:=λ y H=>∃ a v,x=.ref a/\sR H a y (some v)/\Q v H
def JU(ty:TE)(σ:St)(Q:VK):VK:=λ x H=>ty σ H (HP Q x)
theorem Gw(ty:TE)(σ:St)(Q:VK)(x:V)(H:Hp):JU ty σ Q x H=ty σ H (HP Q x):=rfl
theorem Cc(td ty:TE)(σ:St)(H:Hp)(Q:VK):D1 td ty σ H Q=td σ H (JU ty σ Q):=rfl
theorem tK{H:Hp}{a:Addr}{kvs:List (Key × V)}{k:Key}{v:V}{Q:VK}(e:H a=some (.dK kvs))(h:dr kvs k=some v)(q:Q v H):HP Q (.ref a) (kV k) H:=⟨a,v,rfl,h ▸ sR.k e,q⟩
section
variable {X:Cx}
end
def HM(nx:St->Hp->Prop)(σ:St)(v x:V):VK:=λ y H=>∃ a H4,x=.ref a/\DJ H a y v H4/\nx σ H4
def HN(ty:TE)(nx:St->Hp->Prop)(σ:St)(v:V):VK:=λ x H=>ty σ H (HM nx σ v x)
theorem Gu(ty:TE)(nx:St->Hp->Prop)(σ:St)(v x:V)(H:Hp):HN ty nx σ v x H=ty σ H (HM nx σ v x):=rfl
def JT(td ty:TE)(nx:St->Hp->Prop)(σ:St):VK:=λ v H=>td σ H (HN ty nx σ v)
theorem Gv(td ty:TE)(nx:St->Hp->Prop)(σ:St)(v:V)(H:Hp):JT td ty nx σ v H=td σ H (HN ty nx σ v):=rfl
theorem Cg(td ty tv:TE)(nx:St->Hp->Prop)(rt:VK)(bk ct:St->Hp->Prop)(σ:St)(H:Hp):D8 td ty tv ⟨nx,rt,bk,ct⟩ σ H=tv σ H (JT td ty nx σ):=rfl
theorem gk{H:Hp}{a:Addr}{kvs:List (Key × V)}{k:Key}{v:V}{nx:St->Hp->Prop}{σ:St}(e:H a=some (.dK kvs))(hl:kvs.length < sizeLine)(q:nx σ (upd H a (.dK (df kvs k v)))):HM nx σ v (.ref a) (kV k) H:=⟨a,_,rfl,DJ.k e hl,q⟩
def Ec:List V->Hp->VK->Prop:=λ vs H Q=>∃ p kvs ns,vs=[.ref p]/\H p=some (.dK kvs)/\kvs.map (·.1)=ns.map (Sum.inl:Int->Key)/\ns.length < 64/\∀ ms:List Int,ms.Perm ns->ms.Pairwise (·<=·)->gy (.lst (ms.map V.int)) H Q
theorem Bl{p:Addr}{kvs:List (Key × V)}{ns:List Int}{H:Hp}{Q:VK}(e:H p=some (.dK kvs))(hk:kvs.map (·.1)=ns.map (Sum.inl:Int->Key))(hl:ns.length < 64)(q:∀ ms:List Int,ms.Perm ns->ms.Pairwise (·<=·)->gy (.lst (ms.map V.int)) H Q):Ec [.ref p] H Q:=⟨p,kvs,ns,rfl,e,hk,hl,q⟩
theorem fh:∀ {us:List Value}{ns:List Int},us.length=ns.length->(∀ (i:Nat) (u:Value),us[i]? = some u->∃ n t,ns[i]? = some n/\u=.int n t)->IntsAre us ns
 | [],[],_,_=>.nil
 | [],_::_,h,_=>by cases h
 | _::_,[],h,_=>by cases h
 | u::us,n::ns,h,k=>by
  obtain⟨m,t,e1,rfl⟩:=k 0 u rfl;cases e1;exact .cons n t (fh (by simpa using h) λ i u e=>k (i+1) u (by simpa using e))
theorem eh:∀ {us:List Value}{ns:List Int},IntsAre us ns->aT (ns.map V.int) us
 | _,_,.nil=>.nil
 | _,_,.cons n t r=>.cons ⟨t,rfl⟩ (eh r)
theorem fY{α β:Type}{F:α->β->Prop}:∀ {l₁:List α}{l₂:List β},Paired F l₁ l₂->∀ {i:Nat}{a:α},l₁[i]? = some a->∃ b,l₂[i]? = some b/\F a b
 | _,_,.nil,i,a,h=>by simp at h
 | _,_,.cons h₁ t,0,a,h=>by cases h;exact⟨_,rfl,h₁⟩
 | _,_,.cons h₁ t,i+1,a,h=>fY t (i:=i) (by simpa using h)
section
variable {X:Cx}
theorem rZ(hc:X.calm=true):bK X (.builtin "sorted") Ec:=by
 intro pins s σ H vs us Q I r h;obtain⟨p,kvs,ns,rfl,e,hk,hl,q⟩:=h
 cases r with
 | cons r rr=>
  cases rr;cases r;obtain⟨z,hd,xs,rel,dd⟩:=Bh I.hok e;obtain⟨ep,hat⟩:=dd.dictAt;have hlen:kvs.length=xs.length:=NF rel;have hln:xs.length=ns.length:=by rw [←hlen];have:=L6 List.length hk;simpa using this
  refine Calls.call_function_entry kind_sorted plain_sorted entry_sorted (args_sorted1 _) ?_;unfold Builtin.«sorted»;refine wpAny_bind (m:=checkCount "sorted" 1 1 _) (wpAny_pure ?_);refine wpAny_bind (W.kdu_collect (A:=X.A.in1) (W.kdl_dict (knd:=ba X.prog X.w) (kvs:=xs) (ep:=ep) hd) (show X.A.in1.handled=none from I.ok.hd hc) hat (by omega) λ h' tk acc kp hacc=>?_);have hal:acc.toList.length=ns.length:=by rw [Array.length_toList,hacc.1,hln]
  have hI:IntsAre acc.toList ns:=by
   refine fh hal λ i u hu=>?_;obtain⟨k,x,hx,hku⟩:=hacc.2 i u (by simpa using hu);have hi:i < kvs.length:=by rw [hlen];exact(K0.mp hx).1
   have h1:kvs[i]? = some kvs[i]:=KU hi;obtain⟨w',hw',rw'⟩:=fY rel h1;rw [hx] at hw';cases hw';have h2:(kvs.map (·.1))[i]? = some k:=by rw [Lh,h1];exact L6 some rw'.1
   rw [hk,Lh] at h2;obtain⟨n,hn,rfl⟩:=Lm.mp h2
   rcases aJ (show lI (Sum.inl n) u=true from hku) with ⟨j,t,e1,e2⟩|⟨j,t,e1,e2⟩
   ·cases e1;exact⟨n,t,hn,e2⟩
   ·cases e1
  refine KW (wpAny_newList ?_ (by rw [hal];exact az (by omega)));have hoL:(h'.push (seqObj "list" acc.toList.toArray 0)).get? h'.objs.size=some (seqObj "list" acc.toList.toArray 0):=La _ rfl;refine KW (MX (MQ slot_list_sort ⟨_,hoL,rfl⟩ entry_list_sort (list_sort_tree hoL hI (by omega) λ out ns' a1 a2 a3=>⟨_,rfl,?_⟩) (args_list_sort _)));refine K8 ⟨_,rfl,?_⟩;have I2:Inv X pins σ H { s with heap:=h',toks:=tk }:=I.kept (t':=tk) kp;have fr:=I2.hok.fresh (K3 _);obtain⟨e',he'⟩:=sortedHeap_at (out:=out) hoL;refine⟨.ref h'.objs.size,_,I2.laid (t':=tk) (h':=sortedHeap (h'.push (seqObj "list" acc.toList.toArray 0)) h'.objs.size acc.toList out) (o:=.lst (ns'.map V.int)) (λ b u hb=>?_) (K3 _) ⟨?_,out.toList,e',eh a1,?_⟩,rfl,q ns' a2 a3 _ _ fr (Ext.new fr) ah⟩
  ·have hb':h'.get? b=some u:=hb;have hlt:=K6 hb';rw [sortedHeap_old (Lf hlt) (by rw [size_push'];exact NV hlt)];exact KY _ hb'
  ·rw [K2,a2.length_eq];exact az (by omega)
  ·rw [Array.toArray_toList];exact he'
end
def AG{α β:Type}(R1:α->V->Hp->Prop)(R2:β->V->Hp->Prop)(z:α × β)(x:V)(H:Hp):Prop:=∃ p q1 q2,x=.ref p/\H p=some (.tup [q1,q2])/\R1 z.1 q1 H/\R2 z.2 q2 H
theorem jU{H:Hp}{α β:Type}{R1:α->V->Hp->Prop}{R2:β->V->Hp->Prop}(h1:∀ z y H H',R1 z y H->Ext H H'->R1 z y H')(h2:∀ z y H H',R2 z y H->Ext H H'->R2 z y H'){a b:Addr}{xs ys:List V}{zs:List α}{ws:List β}(ha:H a=some (.lst xs))(hb:H b=some (.lst ys))(al:Al (λ z y=>R1 z y H) zs xs)(bl:Al (λ z y=>R2 z y H) ws ys) :
  (∀ i z H',(zs.zip ws)[i]? = some z->Ext H H'->(Itz false false a b xs ys).go i H'/\∀ x H'',(Itz false false a b xs ys).yld i H' x H''->Ext H' H''/\AG R1 R2 z x H'')/\∀ H',Ext H H'->(Itz false false a b xs ys).stop (zs.zip ws).length H':=by
 have wk:=Ac (ka:=false) (kb:=false) ha hb;refine⟨λ i z H' hz e=>?_,λ H' e=>?_⟩
 ·obtain⟨i1,i2⟩:=K0.mp hz;rw [Mc] at i1;have hx:xs[i]? = some (xs[i]'(by rw [al.1];omega)):=KU _;have hy:ys[i]? = some (ys[i]'(by rw [bl.1];omega)):=KU _;have g1:=al.2 i zs[i] _ (KU _) hx;have g2:=bl.2 i ws[i] _ (KU _) hy;generalize (xs[i]'(by rw [al.1];omega))=x0 at hx g1;generalize (ys[i]'(by rw [bl.1];omega))=y0 at hy g2
  have hzz:(xs.zip ys)[i]? = some (x0,y0):=by
   rw [LS];exact⟨hx,hy⟩
  obtain⟨go,yd⟩:=wk.1 i _ H' hzz e;refine⟨go,λ x H'' y=>?_⟩;obtain⟨e2,p,hp,hp2⟩:=yd x H'' y;have ez:z=(zs[i],ws[i]):=by rw [←i2,N3]
  subst ez;exact⟨e2,p,x0,y0,hp,hp2,h1 _ _ _ _ g1 (e.trans e2),h2 _ _ _ _ g2 (e.trans e2)⟩
 ·have:=wk.2 H' e
  rwa [show (zs.zip ws).length=(xs.zip ys).length by rw [Mc,Mc,al.1,bl.1]]
def tV(i:Nat):TE:=λ σ H Q=>match σ[i]? with
 | some (some v)=>Q v H
 | _=>False
theorem DV(i:Nat):G9 i=tV i:=by
 funext σ H Q;refine propext ⟨λ ⟨v,e,q⟩=>?_,λ h=>?_⟩
 ·unfold tV;rw [e];exact q
 ·unfold tV at h;split at h
  ·rename_i v e;exact⟨v,e,h⟩
  ·exact h.elim
theorem Fq{v:V}{σ:St}{H:Hp}{Q:VK}:tV 0 (some v::σ) H Q=Q v H:=rfl
theorem Fp{a0:Option V}{v:V}{σ:St}{H:Hp}{Q:VK}:tV 1 (a0::some v::σ) H Q=Q v H:=rfl
theorem Fo{a0 a1:Option V}{v:V}{σ:St}{H:Hp}{Q:VK}:tV 2 (a0::a1::some v::σ) H Q=Q v H:=rfl
theorem Fn{a0 a1 a2:Option V}{v:V}{σ:St}{H:Hp}{Q:VK}:tV 3 (a0::a1::a2::some v::σ) H Q=Q v H:=rfl
theorem Fm{a0 a1 a2 a3:Option V}{v:V}{σ:St}{H:Hp}{Q:VK}:tV 4 (a0::a1::a2::a3::some v::σ) H Q=Q v H:=rfl
theorem Fl{a0 a1 a2 a3 a4:Option V}{v:V}{σ:St}{H:Hp}{Q:VK}:tV 5 (a0::a1::a2::a3::a4::some v::σ) H Q=Q v H:=rfl
theorem Fj{a0 a1 a2 a3 a4 a5:Option V}{v:V}{σ:St}{H:Hp}{Q:VK}:tV 6 (a0::a1::a2::a3::a4::a5::some v::σ) H Q=Q v H:=rfl
theorem Fi{a0 a1 a2 a3 a4 a5 a6:Option V}{v:V}{σ:St}{H:Hp}{Q:VK}:tV 7 (a0::a1::a2::a3::a4::a5::a6::some v::σ) H Q=Q v H:=rfl
theorem Fh{a0 a1 a2 a3 a4 a5 a6 a7:Option V}{v:V}{σ:St}{H:Hp}{Q:VK}:tV 8 (a0::a1::a2::a3::a4::a5::a6::a7::some v::σ) H Q=Q v H:=rfl
theorem Fg{a0 a1 a2 a3 a4 a5 a6 a7 a8:Option V}{v:V}{σ:St}{H:Hp}{Q:VK}:tV 9 (a0::a1::a2::a3::a4::a5::a6::a7::a8::some v::σ) H Q=Q v H:=rfl
theorem B7{a0 a1 a2 a3 a4 a5 a6 a7 a8 a9:Option V}{v:V}{σ:St}{H:Hp}{Q:VK}:tV 10 (a0::a1::a2::a3::a4::a5::a6::a7::a8::a9::some v::σ) H Q=Q v H:=rfl
theorem B6{a0 a1 a2 a3 a4 a5 a6 a7 a8 a9 a10:Option V}{v:V}{σ:St}{H:Hp}{Q:VK}:tV 11 (a0::a1::a2::a3::a4::a5::a6::a7::a8::a9::a10::some v::σ) H Q=Q v H:=rfl
theorem B5{a0 a1 a2 a3 a4 a5 a6 a7 a8 a9 a10 a11:Option V}{v:V}{σ:St}{H:Hp}{Q:VK}:tV 12 (a0::a1::a2::a3::a4::a5::a6::a7::a8::a9::a10::a11::some v::σ) H Q=Q v H:=rfl
theorem B4{a0 a1 a2 a3 a4 a5 a6 a7 a8 a9 a10 a11 a12:Option V}{v:V}{σ:St}{H:Hp}{Q:VK}:tV 13 (a0::a1::a2::a3::a4::a5::a6::a7::a8::a9::a10::a11::a12::some v::σ) H Q=Q v H:=rfl
theorem B3{a0 a1 a2 a3 a4 a5 a6 a7 a8 a9 a10 a11 a12 a13:Option V}{v:V}{σ:St}{H:Hp}{Q:VK}:tV 14 (a0::a1::a2::a3::a4::a5::a6::a7::a8::a9::a10::a11::a12::a13::some v::σ) H Q=Q v H:=rfl
theorem B2{a0 a1 a2 a3 a4 a5 a6 a7 a8 a9 a10 a11 a12 a13 a14:Option V}{v:V}{σ:St}{H:Hp}{Q:VK}:tV 15 (a0::a1::a2::a3::a4::a5::a6::a7::a8::a9::a10::a11::a12::a13::a14::some v::σ) H Q=Q v H:=rfl
theorem B0{a0 a1 a2 a3 a4 a5 a6 a7 a8 a9 a10 a11 a12 a13 a14 a15:Option V}{v:V}{σ:St}{H:Hp}{Q:VK}:tV 16 (a0::a1::a2::a3::a4::a5::a6::a7::a8::a9::a10::a11::a12::a13::a14::a15::some v::σ) H Q=Q v H:=rfl
def nI0(g:Int->Int->V):R2:=λ x y H Q=>match x,y with
 | .int i,.int j=>Q (g i j) H
 | _,_=>False
theorem IJ(g:Int->Int->V)(i j:Int)(H:Hp)(Q:VK):nI0 g (.int i) (.int j) H Q=Q (g i j) H:=rfl
theorem gZ(g:Int->Int->V):rI0 g=nI0 g:=by
 funext x y H Q;refine propext ⟨λ ⟨i,j,e,e',q⟩=>by subst e e';exact q,λ h=>?_⟩;unfold nI0 at h;split at h
 ·exact⟨_,_,rfl,rfl,h⟩
 ·exact h.elim
def nI(C:Int->Int->Prop)(g:Int->Int->V):R2:=λ x y H Q=>match x,y with
 | .int i,.int j=>C i j/\Q (g i j) H
 | _,_=>False
theorem Ky(C:Int->Int->Prop)(g:Int->Int->V)(i j:Int)(H:Hp)(Q:VK):nI C g (.int i) (.int j) H Q=(C i j/\Q (g i j) H):=rfl
theorem sY(C:Int->Int->Prop)(g:Int->Int->V):rI C g=nI C g:=by
 funext x y H Q;refine propext ⟨λ ⟨i,j,e,e',q⟩=>by subst e e';exact q,λ h=>?_⟩;unfold nI at h;split at h
 ·exact⟨_,_,rfl,rfl,h⟩
 ·exact h.elim
def nU(g:Int->V):V->Hp->VK->Prop:=λ x H Q=>match x with
 | .int i=>Q (g i) H
 | _=>False
theorem Kx(g:Int->V)(i:Int)(H:Hp)(Q:VK):nU g (.int i) H Q=Q (g i) H:=rfl
theorem Iy(g:Int->V):rU g=nU g:=by
 funext x H Q;refine propext ⟨λ ⟨i,e,q⟩=>by subst e;exact q,λ h=>?_⟩;unfold nU at h;split at h
 ·exact⟨_,rfl,h⟩
 ·exact h.elim
def jk(Q:Bool->Hp->Prop):VK:=λ x H=>match x with
 | .bl k=>Q k H
 | _=>False
theorem yw(Q:Bool->Hp->Prop)(k:Bool)(H:Hp):jk Q (.bl k) H=Q k H:=rfl
theorem yZ(Q:Bool->Hp->Prop):Em Q=jk Q:=by
 funext x H;refine propext ⟨λ ⟨k,e,q⟩=>by subst e;exact q,λ h=>?_⟩;unfold jk at h;split at h
 ·exact⟨_,rfl,h⟩
 ·exact h.elim
def nz(t:TE):TT:=λ σ H Q=>t σ H (jk Q)
theorem Cn(t:TE)(σ:St)(H:Hp)(Q:Bool->Hp->Prop):nz t σ H Q=t σ H (jk Q):=rfl
theorem gL(t:TE):xx t=nz t:=by
 funext σ H Q
 show t σ H (Em Q)=t σ H (jk Q)
 rw [yZ]
theorem vM(t:TE):tB t=nz t:=gL t
def tF(tb:TE)(σ:St)(Q:VK):VK:=λ x H=>match x with
 | .bl c=>if c=true then tb σ H Q else Q (.bl false) H
 | _=>False
theorem CZ(tb:TE)(σ:St)(Q:VK)(c:Bool)(H:Hp):tF tb σ Q (.bl c) H=(if c=true then tb σ H Q else Q (.bl false) H):=rfl
def A0(ta tb:TE):TE:=λ σ H Q=>ta σ H (tF tb σ Q)
theorem Cv(ta tb:TE)(σ:St)(H:Hp)(Q:VK):A0 ta tb σ H Q=ta σ H (tF tb σ Q):=rfl
theorem yo(ta tb:TE):D6 ta tb=A0 ta tb:=by
 funext σ H Q
 show ta σ H (Jg tb σ Q)=ta σ H (tF tb σ Q)
 congr 1;funext x H;refine propext ⟨λ ⟨k,e,q⟩=>by subst e;exact q,λ h=>?_⟩;unfold tF at h;split at h
 ·exact⟨_,rfl,h⟩
 ·exact h.elim
def DP(tb:TE)(σ:St)(Q:VK):VK:=λ x H=>match x with
 | .bl c=>if c=true then Q (.bl true) H else tb σ H Q
 | _=>False
theorem Gd(tb:TE)(σ:St)(Q:VK)(c:Bool)(H:Hp):DP tb σ Q (.bl c) H=(if c=true then Q (.bl true) H else tb σ H Q):=rfl
def Hy(ta tb:TE):TE:=λ σ H Q=>ta σ H (DP tb σ Q)
theorem FR(ta tb:TE)(σ:St)(H:Hp)(Q:VK):Hy ta tb σ H Q=ta σ H (DP tb σ Q):=rfl
theorem BZ(ta tb:TE):Jt ta tb=Hy ta tb:=by
 funext σ H Q
 show ta σ H (KH tb σ Q)=ta σ H (DP tb σ Q)
 congr 1;funext x H;refine propext ⟨λ ⟨k,e,q⟩=>by subst e;exact q,λ h=>?_⟩;unfold DP at h;split at h
 ·exact⟨_,rfl,h⟩
 ·exact h.elim
def sZ(Q:VK):VK:=λ x H=>match x with
 | .bl c=>Q (.bl (!c)) H
 | _=>False
theorem CJ(Q:VK)(c:Bool)(H:Hp):sZ Q (.bl c) H=Q (.bl (!c)) H:=rfl
def AX(ta:TE):TE:=λ σ H Q=>ta σ H (sZ Q)
theorem Cp(ta:TE)(σ:St)(H:Hp)(Q:VK):AX ta σ H Q=ta σ H (sZ Q):=rfl
theorem yn(ta:TE):DY ta=AX ta:=by
 funext σ H Q
 show ta σ H (Jc Q)=ta σ H (sZ Q)
 congr 1;funext x H;refine propext ⟨λ ⟨k,e,q⟩=>by subst e;exact q,λ h=>?_⟩;unfold sZ at h;split at h
 ·exact⟨_,rfl,h⟩
 ·exact h.elim
def qK(r':R2)(tc:TE)(σ:St)(y:V)(Q:VK):VK:=λ z H=>match z with
 | .bl k=>if k=true then tc σ H (Hj r' y Q) else Q (.bl false) H
 | _=>False
theorem CV(r':R2)(tc:TE)(σ:St)(y:V)(Q:VK)(k:Bool)(H:Hp):qK r' tc σ y Q (.bl k) H=(if k=true then tc σ H (Hj r' y Q) else Q (.bl false) H):=rfl
theorem Dg(r':R2)(tc:TE)(σ:St)(y:V)(Q:VK):HQ r' tc σ y Q=qK r' tc σ y Q:=by
 funext z H;refine propext ⟨λ ⟨k,e,q⟩=>by subst e;exact q,λ h=>?_⟩;unfold qK at h;split at h
 ·exact⟨_,rfl,h⟩
 ·exact h.elim
def xF(r r':R2)(tc:TE)(σ:St)(x:V)(Q:VK):VK:=λ y H=>r x y H (qK r' tc σ y Q)
theorem CW(r r':R2)(tc:TE)(σ:St)(x y:V)(Q:VK)(H:Hp):xF r r' tc σ x Q y H=r x y H (qK r' tc σ y Q):=rfl
def xG(r r':R2)(tb tc:TE)(σ:St)(Q:VK):VK:=λ x H=>tb σ H (xF r r' tc σ x Q)
theorem CY(r r':R2)(tb tc:TE)(σ:St)(Q:VK)(x:V)(H:Hp):xG r r' tb tc σ Q x H=tb σ H (xF r r' tc σ x Q):=rfl
def o8(r r':R2)(ta tb tc:TE):TE:=λ σ H Q=>ta σ H (xG r r' tb tc σ Q)
theorem yv(r r':R2)(ta tb tc:TE)(σ:St)(H:Hp)(Q:VK):o8 r r' ta tb tc σ H Q=ta σ H (xG r r' tb tc σ Q):=rfl
theorem mf(r r':R2)(ta tb tc:TE):tM r r' ta tb tc=o8 r r' ta tb tc:=by
 funext σ H Q
 show ta σ H (KI r r' tb tc σ Q)=ta σ H (xG r r' tb tc σ Q)
 congr 1;funext x H1
 show tb σ H1 (JV r r' tc σ x Q)=tb σ H1 (xF r r' tc σ x Q)
 congr 1;funext y H2
 show r x y H2 (HQ r' tc σ y Q)=r x y H2 (qK r' tc σ y Q)
 rw [Dg]
def xI:TGs:=λ vs σ H Q=>match vs with
 | []=>Q σ H
 | _=>False
theorem C9(σ:St)(H:Hp)(Q:St->Hp->Prop):xI [] σ H Q=Q σ H:=rfl
theorem Dj:J6=xI:=by
 funext vs σ H Q;refine propext ⟨λ ⟨e,q⟩=>by subst e;exact q,λ h=>?_⟩;unfold xI at h;split at h
 ·exact⟨rfl,h⟩
 ·exact h.elim
def pj(t:TG)(u:TGs):TGs:=λ vs σ H Q=>match vs with
 | v::r=>t v σ H (kGs u r Q)
 | _=>False
theorem yD(t:TG)(u:TGs)(v:V)(r:List V)(σ:St)(H:Hp)(Q:St->Hp->Prop):pj t u (v::r) σ H Q=t v σ H (kGs u r Q):=rfl
theorem zr(t:TG)(u:TGs):Ew t u=pj t u:=by
 funext vs σ H Q;refine propext ⟨λ ⟨v,r,e,q⟩=>by subst e;exact q,λ h=>?_⟩;unfold pj at h;split at h
 ·exact⟨_,_,rfl,h⟩
 ·exact h.elim
theorem xt{α0:Type}{f:α0->List V}{B:α0->Prop}(inj:∀ a a',f a=f a'->a=a')(a:α0):(∃ a',f a=f a'/\B a')=B a:=propext ⟨λ ⟨a',e,q⟩=>by obtain rfl:=inj _ _ e;exact q,λ q=>⟨a,rfl,q⟩⟩
theorem sO{α0:Type}{f:α0->List V}{B:α0->Prop}{vs:List V}{n:Nat}(h:∃ a,vs=f a/\B a)(l:∀ a,(f a).length=n):vs.length=n:=by
 obtain⟨_,rfl,_⟩:=h;exact l _
theorem sJ{α0 α1:Type}{f:α0->α1->List V}{B:α0->α1->Prop}(inj:∀ a b a' b',f a b=f a' b'->a=a'/\b=b')(a:α0)(b:α1):(∃ a' b',f a b=f a' b'/\B a' b')=B a b:=propext ⟨λ ⟨a',b',e,q⟩=>by obtain⟨rfl,rfl⟩:=inj _ _ _ _ e;exact q,λ q=>⟨a,b,rfl,q⟩⟩
theorem sL{α0 α1:Type}{f:α0->α1->List V}{B:α0->α1->Prop}{vs:List V}{n:Nat}(h:∃ a b,vs=f a b/\B a b)(l:∀ a b,(f a b).length=n):vs.length=n:=by
 obtain⟨_,_,rfl,_⟩:=h;exact l _ _
theorem ni{α0 α1 α2:Type}{f:α0->α1->α2->List V}{B:α0->α1->α2->Prop}(inj:∀ a b c a' b' c',f a b c=f a' b' c'->a=a'/\b=b'/\c=c')(a:α0)(b:α1)(c:α2):(∃ a' b' c',f a b c=f a' b' c'/\B a' b' c')=B a b c:=propext ⟨λ ⟨a',b',c',e,q⟩=>by obtain⟨rfl,rfl,rfl⟩:=inj _ _ _ _ _ _ e;exact q,λ q=>⟨a,b,c,rfl,q⟩⟩
theorem nj{α0 α1 α2:Type}{f:α0->α1->α2->List V}{B:α0->α1->α2->Prop}{vs:List V}{n:Nat}(h:∃ a b c,vs=f a b c/\B a b c)(l:∀ a b c,(f a b c).length=n):vs.length=n:=by
 obtain⟨_,_,_,rfl,_⟩:=h;exact l _ _ _
theorem zT{α0 α1 α2 α3:Type}{f:α0->α1->α2->α3->List V}{B:α0->α1->α2->α3->Prop}(inj:∀ a b c d a' b' c' d',f a b c d=f a' b' c' d'->a=a'/\b=b'/\c=c'/\d=d')(a:α0)(b:α1)(c:α2)(d:α3):(∃ a' b' c' d',f a b c d=f a' b' c' d'/\B a' b' c' d')=B a b c d:=propext ⟨λ ⟨a',b',c',d',e,q⟩=>by obtain⟨rfl,rfl,rfl,rfl⟩:=inj _ _ _ _ _ _ _ _ e;exact q,λ q=>⟨a,b,c,d,rfl,q⟩⟩
theorem zU{α0 α1 α2 α3:Type}{f:α0->α1->α2->α3->List V}{B:α0->α1->α2->α3->Prop}{vs:List V}{n:Nat}(h:∃ a b c d,vs=f a b c d/\B a b c d)(l:∀ a b c d,(f a b c d).length=n):vs.length=n:=by
 obtain⟨_,_,_,_,rfl,_⟩:=h;exact l _ _ _ _
theorem Kk{α0 α1 α2 α3 α4:Type}{f:α0->α1->α2->α3->α4->List V}{B:α0->α1->α2->α3->α4->Prop}(inj:∀ a b c d i a' b' c' d' i',f a b c d i=f a' b' c' d' i'->a=a'/\b=b'/\c=c'/\d=d'/\i=i')(a:α0)(b:α1)(c:α2)(d:α3)(i:α4):(∃ a' b' c' d' i',f a b c d i=f a' b' c' d' i'/\B a' b' c' d' i')=B a b c d i:=propext ⟨λ ⟨a',b',c',d',i',e,q⟩=>by obtain⟨rfl,rfl,rfl,rfl,rfl⟩:=inj _ _ _ _ _ _ _ _ _ _ e;exact q,λ q=>⟨a,b,c,d,i,rfl,q⟩⟩
theorem Kl{α0 α1 α2 α3 α4:Type}{f:α0->α1->α2->α3->α4->List V}{B:α0->α1->α2->α3->α4->Prop}{vs:List V}{n:Nat}(h:∃ a b c d i,vs=f a b c d i/\B a b c d i)(l:∀ a b c d i,(f a b c d i).length=n):vs.length=n:=by
 obtain⟨_,_,_,_,_,rfl,_⟩:=h;exact l _ _ _ _ _
theorem KC{P:List Value->Prop}(h:P []):∀ us:List Value,us.length=0->P us:=λ us e=>by
 cases us with
 | nil=>exact h
 | cons a r=>cases e
theorem nt{P:List Value->Prop}(h:∀ a,P [a]):∀ us:List Value,us.length=1->P us:=λ us e=>by
 cases us with
 | nil=>cases e
 | cons x r=>exact KC (P:=λ r=>P (x::r)) (h x) r (NA e)
theorem nq{P:List Value->Prop}(h:∀ a b,P [a,b]):∀ us:List Value,us.length=2->P us:=λ us e=>by
 cases us with
 | nil=>cases e
 | cons x r=>exact nt (P:=λ r=>P (x::r)) (h x) r (NA e)
theorem nk{P:List Value->Prop}(h:∀ a b c,P [a,b,c]):∀ us:List Value,us.length=3->P us:=λ us e=>by
 cases us with
 | nil=>cases e
 | cons x r=>exact nq (P:=λ r=>P (x::r)) (h x) r (NA e)
theorem xu{P:List Value->Prop}(h:∀ a b c d,P [a,b,c,d]):∀ us:List Value,us.length=4->P us:=λ us e=>by
 cases us with
 | nil=>cases e
 | cons x r=>exact nk (P:=λ r=>P (x::r)) (h x) r (NA e)
theorem KA{P:List Value->Prop}(h:∀ a b c d i,P [a,b,c,d,i]):∀ us:List Value,us.length=5->P us:=λ us e=>by
 cases us with
 | nil=>cases e
 | cons x r=>exact xu (P:=λ r=>P (x::r)) (h x) r (NA e)
section
variable {X:Cx}
theorem pvN(i:Nat){x:Str}{pos:Pos}(hN:X.N[i]? = some x:=by rfl)(hv:Vis X.env.scope x:=by first|exact Or.inl rfl|exact Or.inr (Or.inl rfl)|exact Or.inr (Or.inr rfl))(hd:(x == ("__debug__":Str))=false:=by decide)
  (hcd:(x == ("__classdict__":Str))=false:=by decide):PE X (.Name x pos) (tV i):=by rw [←DV];exact pv i hN hv hd hcd
theorem aH:OpR X (binaryOp .Add) (nI0 λ i j=>.int (i+j)):=by rw [←gZ];exact o7
theorem aF:OpR X (binaryOp .Sub) (nI0 λ i j=>.int (i - j)):=by rw [←gZ];exact E5
theorem cD:OpR X (compareOp .Lt) (nI0 λ i j=>.bl (decide (i < j))):=by rw [←gZ];exact Eg
theorem i7:OpR X (compareOp .LtE) (nI0 λ i j=>.bl (decide (i<=j))):=by rw [←gZ];exact Im
theorem dR:OpR X (compareOp .Gt) (nI0 λ i j=>.bl (decide (j < i))):=by rw [←gZ];exact Eh
theorem AV:OpR X (compareOp .GtE) (nI0 λ i j=>.bl (decide (j<=i))):=by rw [←gZ];exact Io
theorem bh:OpR X (binaryOp .Mult) (nI gS λ i j=>.int (i * j)):=by rw [←sY];exact gm
theorem uP:OpR X (binaryOp .FloorDiv) (nI Ic λ i j=>.int (i / j)):=by rw [←sY];exact BW
theorem fx:OpR X (binaryOp .FloorDiv) (nI nA λ i j=>.int (i.fdiv j)):=by rw [←sY];exact yl
theorem dN:OpR X (binaryOp .Mod) (nI (λ _ j=>0 < j) λ i j=>.int (i % j)):=by rw [←sY];exact gY
theorem Aq:OpR X (binaryOp .Pow) (nI Ib λ i j=>.int (i ^ j.toNat)):=by rw [←sY];exact E6
theorem fL:UnR X (unaryOp .USub) (nU λ i=>.int (-i)):=by rw [←Iy];exact ED
variable {a b c d e:Expr}{ta tb tc td t:TE}{pos:Pos}
theorem xY{op:CmpOp}{r:R2}(ho:OpR X (compareOp op) r)(ha:PE X a ta)(hb:PE X b tb)(hm:behindInMarks op b=false):PT X (.Compare a [op] [b] pos) (nz (tOp r ta tb)):=by rw [←gL];exact nV ho ha hb hm
theorem BC(h:PE X e t)(he:∀ whole,isTrue e X.env whole=(do let v ←whole;standAt e.pos;holding [v] (truthy v)):=by intro _;rfl):PT X e (nz t):=by rw [←vM];exact EO h he
theorem l5{op op':CmpOp}{r r':R2}(ho:OpR X (compareOp op) r)(ho':OpR X (compareOp op') r')(ha:PE X a ta)(hb:PE X b tb)(hc:PE X c tc)
  (hm:lastMarks [op,op'] [b,c]=false:=by with_unfolding_all rfl):PE X (.Compare a [op,op'] [b,c] pos) (o8 r r' ta tb tc):=by rw [←mf];exact yh ho ho' ha hb hc hm
theorem vB{op op':CmpOp}{r r':R2}(ho:OpR X (compareOp op) r)(ho':OpR X (compareOp op') r')(ha:PE X a ta)(hb:PE X b tb)(hc:PE X c tc)
  (hm:lastMarks [op,op'] [b,c]=false:=by with_unfolding_all rfl):PT X (.Compare a [op,op'] [b,c] pos) (nz (o8 r r' ta tb tc)):=by rw [←gL,←mf];exact xZ ho ho' ha hb hc hm
variable {rest:List Expr}
theorem BQ(ha:PE X a ta)(hb:PE X (.BoolOp .And (b::rest) pos) tb):PE X (.BoolOp .And (a::b::rest) pos) (A0 ta tb):=by rw [←yo];exact E4 ha hb
theorem An(ha:PE X a ta)(hb:PE X (.BoolOp .Or (b::rest) pos) tb):PE X (.BoolOp .Or (a::b::rest) pos) (Hy ta tb):=by rw [←BZ];exact Ij ha hb
theorem uK(ha:PE X a ta):PE X (.UnaryOp .Not a pos) (AX ta):=by rw [←yn];exact E2 ha
theorem aB:PGs X [] xI:=by rw [←Dj];exact BH
theorem vE{e:Expr}{es:List Expr}{t:TG}{u:TGs}(h1:PG X e t)(h2:PGs X es u)
  (hs:(assignEach (e::es) X.env).map (·.2)=assign e X.env::(assignEach es X.env).map (·.2):=by rfl):PGs X (e::es) (pj t u):=by rw [←zr];exact x9 h1 h2 hs
end
theorem A2{i:Nat}:ME (tV i):=by rw [←DV];exact o9
theorem uo{g:Int->Int->V}:MR (nI0 g):=by rw [←gZ];exact pd
theorem kI{t:TE}(h:ME t):MT (nz t):=by rw [←gL];exact j7 h
def HE(lo hi:Option Int)(H:Hp)(Q:VK):List V->Prop:=λ xs=>¬ (HT.sIx xs.length 0 lo=0/\HT.sIx xs.length xs.length hi=xs.length)/\gy (.tup (jg xs lo hi)) H Q
def Hx:V->Option Int->Option Int->Hp->VK->Prop:=λ x lo hi H Q=>match x with
 | .ref a=>aO (gT H a) (HE lo hi H Q)
 | _=>False
theorem FQ(a:Addr)(lo hi:Option Int)(H:Hp)(Q:VK):Hx (.ref a) lo hi H Q=aO (gT H a) (HE lo hi H Q):=rfl
theorem qf(xs:List V)(z:Int)(h:0<=z):jg xs (some z) none=xs.drop z.toNat:=by
 unfold jg;obtain⟨n,rfl⟩:=Int.eq_ofNat_of_zero_le h;rw [HT.sIx_none,HT.sIx_nat]
 show _=xs.drop n
 rcases NY n xs.length with q|q
 ·rw [NB q];exact Ma (by rw [M1];omega)
 ·rw [Nn q,MS (K3 _),MS q,List.take_nil]
theorem Ig{X:Cx}:SlR X Hx:=EI.mono λ x lo hi H Q h=>by
 unfold Hx at h;split at h
 ·rename_i a;obtain⟨xs,e,w,q⟩:=au h;exact⟨a,xs,rfl,SqT.of (oY e),w,q.to⟩
 ·exact h.elim
section
variable {X:Cx}
end
theorem qQ:typeLookup (.type "list_reverseiterator") "__len__"=pure none:=by rw [typeLookup_type,builtinLookup_eq_fast];kernel_rfl
theorem xW:typeLookup (.type "list_reverseiterator") "__length_hint__"=pure (some (.builtin "list_reverseiterator.__length_hint__")):=by rw [typeLookup_type,builtinLookup_eq_fast];kernel_rfl
theorem BA:isSubtype (.type "list_reverseiterator") (.type "list_reverseiterator")=pure true:=by kernel_rfl
section
variable {prog:Program}{w:World}{A:Around}{E:Value->Shared->Prop}{s:Shared}
theorem lz{Q:Value->Shared->Prop}{b z:Addr}{items:Array Value}(hh:A.handled=none)(hb:s.heap.IsList b items)(hz:s.heap.IsRevIter z b ((items.size:Int) - 1))(hbz:b ≠ z)(hsz:items.size<=sizeLine)
  (hQ:∀ (h':Heap) (tk:Nat) (acc:Array Value) (c:Nat),(∀ d o,d ≠ z->s.heap.get? d=some o->h'.get? d=some o)->h'.get? s.heap.objs.size=some { cls:=.type "list",data:=.seq acc c }->ItemsOf (λ i v=>items[items.size - 1 - i]? = some v) acc items.size->Q (.ref s.heap.objs.size) { s with heap:=h',toks:=tk }) :
  wpAny (model prog w) A (call (.type "list") [.ref z]) Q E s:=by
 have zl:z < s.heap.objs.size:=by obtain⟨o,e,_⟩:=hz;exact K6 e
 have bl:b < s.heap.objs.size:=by obtain⟨o,e,_⟩:=hb;exact K6 e
 have hSz:s.heap.objs.size ≠ z:=ML zl;have hSb:s.heap.objs.size ≠ b:=ML bl
 refine callType_codes (Q₁:=λ obj s₁=>obj=.ref s.heap.objs.size/\s₁={ s with heap:=s.heap.push { cls:=.type "list",data:=.seq #[] } }) PySem.F.called_list (PySem.F.typeCall_list_1 _) PySem.F.entry_list_init
  (code_list_new _ ⟨rfl,rfl⟩) λ obj s₁ h₁=>?_
 obtain⟨rfl,rfl⟩:=h₁;have hS:(s.heap.push { cls:=.type "list",data:=.seq #[] }).get? s.heap.objs.size=some { cls:=.type "list",data:=.seq #[] }:=La _ rfl;refine⟨⟨_,hS,rfl⟩,PySem.F.args_list_init_2 _ _,?_⟩
 show wpAny _ A.in1.in1 (do let old ←Builtin.List.listItems (.ref s.heap.objs.size);Builtin.List.listUpdate (.ref s.heap.objs.size) (λ _=>#[]);letGo old.toList.reverse;Builtin.List.listExtendWith (.ref s.heap.objs.size) (.ref z) .none) _ _ _
 refine wpAny_bind ?_;unfold Builtin.List.listItems;refine wpAny_bind (wpAny_seqItems hS rfl (wpAny_pure ?_))
 show wpAny _ A.in1.in1 (updateSeq s.heap.objs.size (λ _=>#[]) >>= λ _=>letGo (#[]:Array Value).toList.reverse >>= λ _=>Builtin.List.listExtendWith (.ref s.heap.objs.size) (.ref z) .none) _ _ _
 refine wpAny_bind (wpAny_updateSeq hS rfl ?_);have hS₂:=Heap.get?_update_self (Obj.mapSeq (λ _=>(#[]:Array Value))) hS rfl;refine wpAny_bind (wpAny_letGo ?_);have k1:∀ c o,s.heap.get? c=some o->((s.heap.push { cls:=.type "list",data:=.seq #[] }).update s.heap.objs.size (Obj.mapSeq (λ _=>(#[]:Array Value)))).get? c=some o:=λ c o e=>(Heap.get?_update_other _ _ (Nat.ne_of_gt (Heap.lt_size e))).trans (Heap.get?_push_of_some _ e);have z1:=hz.at λ o e=>k1 _ o e;have b1:=hb.at λ o e=>k1 _ o e;generalize (s.heap.push { cls:=.type "list",data:=.seq #[] }).update s.heap.objs.size (Obj.mapSeq (λ _=>(#[]:Array Value)))=hp at hS₂ k1 z1 b1;unfold Builtin.List.listExtendWith;have ty1:Shared.TypeIs { s with heap:=hp } (.ref z) "list_reverseiterator":=z1.typeIs;refine wpAny_bind (wpAny_typeOf ty1 ?_);have h1:Builtin.List.listSameRef (.ref s.heap.objs.size) (.ref z)=false:=by simp [Builtin.List.listSameRef,hSz]
 have h2:(Value.type "list_reverseiterator" == Value.type "list")=false:=by decide
 have h3:(Value.type "list_reverseiterator" == Value.type "tuple")=false:=by decide
 simp only [h1,h2,h3,Bool.or_false,Bool.false_eq_true,if_false];refine wpAny_bind (wpAny_pyIter_revIter z1 ?_);refine wpAny_bind (wpAny_holding ?_);unfold Builtin.List.listLengthHint;refine wpAny_bind (wpAny_specialOf ty1 qQ ?_)
 show wpAny _ A.in1.in1 (specialOf (Value.ref z) (Str.ofString "__length_hint__") >>= _) _ _ _
 refine KW (wpAny_specialOf ty1 xW ?_)
 show wpAny _ A.in1.in1 (isInstance (.ref z) (.type "list_reverseiterator") >>= _) _ _ _
 refine KW (wpAny_isInstance (T := "list_reverseiterator") (b:=true) ty1 BA ?_);simp only [Bool.not_true,Bool.false_eq_true,N5];rw [K7 (by decide)];rw [K5 (by decide)];refine K8 ?_;rw [K5 (by decide)];have W:=(Walks.listRev (prog:=prog) (w:=w) (A:=A.in1.in1) hh z b hbz items).toS;refine K8 ⟨plainId_quiet PySem.F.plain_extend_loop _,codeAny_extend_loopS (A:=A.in1) W hsz s.heap.objs.size (by simp only [Ls,LI,Mo,not_or];exact⟨hSz,hSb⟩) .none items.size 0 _ #[] _ rfl (LJ _) ⟨LJ _,by simpa using z1,b1⟩ hS₂ ⟨rfl,λ j v h=>by simp at h⟩ λ s' acc c m h9 it=>?_⟩;have e1:s'.gens=s.gens:=m.gens;have e2:s'.drawn=s.drawn:=m.drawn;have e3:s'.os=s.os:=m.os;obtain⟨h',g,d,tk,os⟩:=s';subst e1 e2 e3;refine⟨rfl,hQ h' tk acc c (λ d o hd e=>?_) h9 it⟩;exact m.heap d o (by simp only [Ls,LI,Mo,not_or];exact⟨Lf (K6 e),hd⟩) (k1 d o e)
end
def Hf(Q:VK):List V->Hp->Prop:=λ vs H=>match vs with
 | [.ref a]=>aO (aD H a) (λ xs=>gy (.lst xs.reverse) H Q)
 | _=>False
theorem uz{a:Addr}{xs:List V}{Q:VK}{H:Hp}(h:H a=some (.lst xs))(q:gy (.lst xs.reverse) H Q):Hf Q [.ref a] H:=by
 show aO (aD H a) _
 rw [aD,h];exact q
def Jv(ta:TA):TE:=λ σ H Q=>ta σ H (Hf Q)
theorem Fx(ta:TA)(σ:St)(H:Hp)(Q:VK):Jv ta σ H Q=ta σ H (Hf Q):=rfl
section
variable {X:Cx}
theorem js{a:Expr}{ta:TA}{p p2 pos pos2:Pos}(hc:X.calm=true)(hg:Gl X "list")(hm:X.mg "list"=none)(hg2:Gl X "reversed")(hm2:X.mg "reversed"=none)(ha:PA X [a] ta)(hs:starEach [a] X.env=[(false,eval a X.env)]:=by rfl)(hs3:starEach [Expr.Call (.Name "reversed" p2) [a] [] pos2] X.env=[(false,eval (Expr.Call (.Name "reversed" p2) [a] [] pos2) X.env)]:=by rfl)(hs4:starEach ([]:List Expr) X.env=[]:=by rfl) :
  PE X (.Call (.Name "list" p) [.Call (.Name "reversed" p2) [a] [] pos2] [] pos) (Jv ta):=by
 intro pins s σ H Q I h;refine Mv (ft I hg hm (show bootBuiltins "list"=some (.type "list") by decide +kernel) ?_);refine LN ?_ (by rw [hs3,hs4]) (by rw [hs4];rfl);rw [hs3]
 show wpAny _ _ (spliced ((false,eval _ X.env)::[])) _ _ s
 refine Calls.spliced_cons ?_;refine Call_ (ft I hg2 hm2 (show bootBuiltins "reversed"=some (.type "reversed") by decide +kernel) (PyProof.Rows.callWith_type1 (thn (ha pos2 pins s σ H _ I h) λ us s1 ⟨vs,H1,I1,r1,q1⟩=>?_) hs rfl));unfold Hf at q1;split at q1
 ·rename_i b;obtain⟨xs,e,q⟩:=au q1
  cases r1 with
  | cons r rr=>
   cases rr;cases r;obtain⟨its,rv,pl,hz⟩:=I1.list (SqL.of (cI e));have hln:=rv.length;refine call_reversed_list pl.isList ?_;refine Calls.spliced_nil ?_;have hbl:b < s1.heap.objs.size:=by obtain⟨o,e,_⟩:=pl.isList;exact K6 e
   have hit:(s1.heap.push (revObj b ((its.toArray.size:Int) - 1))).IsRevIter s1.heap.objs.size b ((its.toArray.size:Int) - 1):=⟨_,La _ rfl,rfl,rfl⟩;refine lz (s:={ s1 with heap:=s1.heap.push (revObj b ((its.toArray.size:Int) - 1)) }) (I1.ok.hd hc) (pl.isList.at λ o e=>KY _ e) hit (Lf hbl) (by rw [Ld,←hln];exact hz) λ h' tk acc c kp hget hit=>?_;have fr:=I1.hok.fresh (Nat.le_succ s1.heap.objs.size);have hs1:(s1.heap.push (revObj b ((its.toArray.size:Int) - 1))).objs.size=s1.heap.objs.size+1:=L4 ..;have hget':h'.get? (s1.heap.objs.size+1)=some { cls:=.type "list",data:=.seq acc c }:=by rw [←hs1];exact hget
   have hv:aT xs.reverse acc.toList:=by
    have hal:acc.toList=its.reverse:=by
     refine NW λ i=>?_
     by_cases hi:i < its.length
     ·have hi':i < acc.size:=by rw [hit.1,Ld];exact hi
      have:=hit.2 i acc[i] (Array.getElem?_eq_getElem hi');rw [Ld,List.getElem?_toArray] at this;rw [Mr hi,this,Array.getElem?_toList,Array.getElem?_eq_getElem hi']
     ·rw [Mj (by rw [Mp,hit.1,Ld];omega),Mj (by rw [LA];omega)]
    rw [hal];exact rv.reverse
   have L:=I1.laid (t':=tk) (h':=h') (a:=s1.heap.objs.size+1) (o:=.lst xs.reverse) (λ d u hd=>kp d u (Lf (K6 hd)) (KY _ hd)) (Nat.le_succ _) ⟨by rw [LA];exact hz,acc.toList,c,hv,hget'⟩
   show EP X pins σ Q (.ref (s1.heap.push (revObj b ((its.toArray.size:Int) - 1))).objs.size) _
   rw [hs1];exact⟨.ref (s1.heap.objs.size+1),_,L,rfl,q _ _ fr (Ext.new fr) ah⟩
 ·exact q1.elim
end
section
variable {k:Nat}{g:TG}{tt:TT}{te:TE}{σ:St}{Q:VK}{H:Hp}
end
structure IsC(K:W.Frag)(C:Addr):Prop where
 cl:Cls K C
 fc:W.findIn K (.ref C) "__class__"=some (some (.builtin "object.__class__"))
 ocs:W.specialIn K (.builtin "object.__class__") "__get__"=some (some (.builtin "getset_descriptor.__get__"))
 oct:W.takesIn K (.builtin "object.__class__")=some true
 mo:W.mroIn K C (.type "object")=some true
def Hz(neg:Bool):R2:=λ x y H Q=>match x,y with
 | .bl b,.bl c=>Q (.bl (if neg=true then !(b == c) else b == c)) H
 | _,_=>False
theorem FT(neg b c:Bool)(H:Hp)(Q:VK):Hz neg (.bl b) (.bl c) H Q=Q (.bl (if neg=true then !(b == c) else b == c)) H:=rfl
section
variable {X:Cx}
theorem vI:OpR X (compareOp .IsNot) (Hz true):=by
 intro pins s σ H x y v u Q I rx ry h;unfold Hz at h;split at h
 ·rename_i b c;cases (show v=Value.bool b from rx);cases (show u=Value.bool c from ry);refine wpAny_isNot_plain (by cases b<;>cases c<;>rfl) ⟨.bl (!(b == c)),H,I,?_,h⟩
  cases b<;>cases c<;>rfl
 ·exact h.elim
end
section
variable {prog:Program}{w:World}{A:Around}{E:Value->Shared->Prop}{K:Frag}{x C dx:Addr}{s:Shared}{name:Str}{v:Value}
end
section
variable {X:Cx}{e o value:Expr}{ta tv:TE}{f:Str}{pos pos':Pos}
end
open Sem (wp)
open AutoSeq1 (wpAny_loadPart')
section
variable {X:Cx}
end
def Ez(o:Obj):Prop:=∃ vs,o.data=.fields vs/\vs[2]? = some .none
section
variable {prog:Program}{w:World}{A:Around}{E:Value->Shared->Prop}{s:Shared}
end
def Kc(X:Cx):Prop:=∃ (e:Addr) (oe:Obj) (u:HO),X.A.handled=some (.ref e)/\X.H₀ e=some (.frz oe u)/\Ez oe
structure KQ(P:Program)(w:World)(K:W.Frag)(tg:Expr)(J:It)(fp:List Addr)(it:Addr)(tn:Nat->Heap->Prop):Prop where
 mem:it∈fp
 obj:∀ i h,tn i h->∀ b∈fp,∃ o,h.get? b=some o/\∀ v,o.data ≠ .cell v
 keep:∀ i h h',tn i h->(∀ b∈fp,∀ o,h.get? b=some o->h'.get? b=some o)->tn i h'
 item:∀ (X:Cx),X.prog=P->X.w=w->X.K=K->Kc X->∀ (i:Nat) (pins:List (Addr × Obj)) (s:Shared) (σ:St) (H:Hp) (E:Value->Shared->Prop),Inv X pins σ H s->(∀ b∈fp,ny X pins H b)->tn i s.heap->J.go i H →
  wpAny (model P w) X.A (pyNext (.ref it)) (λ r s1=>∃ u,r=some u /\
   wpAny (model P w) X.A (letOwnedTupleGo tg (.ref it) u) (λ _ s2=>∃ x H',Inv X pins σ H' s2/\bp x u/\J.yld i H x H'/\tn (i+1) s2.heap/\∀ b∈fp,H' b=none) E s1) E s
 done:∀ (X:Cx),X.prog=P->X.w=w->X.K=K->Kc X->∀ (i:Nat) (pins:List (Addr × Obj)) (s:Shared) (σ:St) (H:Hp) (E:Value->Shared->Prop),Inv X pins σ H s->(∀ b∈fp,ny X pins H b)->tn i s.heap->J.stop i H →
  wpAny (model P w) X.A (pyNext (.ref it)) (λ r s1=>r=none/\Inv X pins σ H s1) E s
section
variable {X:Cx}{tg:Expr}
end
structure Jm(k:Nat)(e:Addr)(A:Around):Prop where
 hd:A.handled=some (.ref e)
 dp:A.depth+3 * k+5 < recursionLimit
 un:A.units+16 * k+200 < cLine
structure KR(P:Program)(w:World)(K:W.Frag)(mg:Str->Option Value)(base:Heap)(CX:CXT)(k:Nat)(f:Addr)(fd:FuncData)(ps:List Str)(sp:Sp):Prop where
 len:∀ vs H Q E,sp vs H Q E->vs.length=ps.length
 run:∀ (A:Around) (outer:List Env) (s:Shared) (H:Hp) (args:Args) (us:List Value) (vs:List V) (Q:VK) (E:XK) (e:Addr) (oe:Obj) (u:HO),Jm k e A->H e=some (.frz oe u)->Ez oe->Ab P w K mg base A outer s H->BindsTo s fd args (ps.zip us)->aT vs us->sp vs H Q E →
  codeAny (model P w) A (.call (.ref f) args) (CR CX outer P w H s Q E) s
section
variable {X:Cx}
end
section
variable {prog:Program}{w:World}{A:Around}{E:Value->Shared->Prop}{s:Shared}
structure Kh(z TI TO i j l:Addr)(f g e:List Addr):Prop where
 ti:TI ≠ z/\TI ≠ TO/\TI ≠ i/\TI ≠ j/\TI ≠ l
 zt:z ≠ TO
 zf:z ∉ f
 zg:z ∉ g
 ze:z ∉ e
 tf:TO ∉ f
 tg:TO ∉ g
 te:TO ∉ e
 ig:i ∉ g
 ie:i ∉ e
 jf:j ∉ f
 je:j ∉ e
 lf:l ∉ f
 lg:l ∉ g
variable {z TI TO i j l:Addr}{f g e:List Addr}{ti tj tl:Nat->Heap->Prop}{vi vj vl:Nat->Option Value}{k m n:Nat}{x y u a b c:Value}
end
section
variable {prog:Program}{w:World}{A:Around}{E:Value->Shared->Prop}{s:Shared}
end
section
variable {X:Cx}
end
def HI(Q:VK)(a:Addr)(y:V):VK:=λ z H=>∃ o,sR H a y o/\Q (o.getD z) H
def HJ(tx:TE)(σ:St)(Q:VK)(a:Addr):VK:=λ y H=>tx σ H (HI Q a y)
theorem Gn(tx:TE)(σ:St)(Q:VK)(a:Addr)(y:V)(H:Hp):HJ tx σ Q a y H=tx σ H (HI Q a y):=rfl
def JS(ty tx:TE)(σ:St)(Q:VK):VK:=λ x H=>∃ a,x=.ref a/\IsD H a/\ty σ H (HJ tx σ Q a)
theorem yt(td ty tx:TE)(σ:St)(H:Hp)(Q:VK):Af td ty tx σ H Q=td σ H (JS ty tx σ Q):=rfl
theorem eV{ty tx:TE}{σ:St}{Q:VK}{H:Hp}{a:Addr}{kvs:List (Key × V)}(e:H a=some (.dK kvs))(q:ty σ H (HJ tx σ Q a)):JS ty tx σ Q (.ref a) H:=⟨a,rfl,.inl ⟨kvs,.inl e⟩,q⟩
theorem gW{Q:VK}{H:Hp}{a:Addr}{kvs:List (Key × V)}{k:Key}{z:V}(e:H a=some (.dK kvs))(q:Q ((dr kvs k).getD z) H):HI Q a (kV k) z H:=⟨_,sR.k e,q⟩
section
variable {X:Cx}
end
def AF(X:Cx)(f:Value)(ks:List Str)(r:List V->List V->Hp->VK->Prop):Prop:=∀ pins s σ H vs us zs ws Q,Inv X pins σ H s->aT vs us->aT zs ws->r vs zs H Q->wpAny (model X.prog X.w) X.A (call f us (ks.zip ws)) (EP X pins σ Q) X.xe s
def HW(r:List V->List V->Hp->VK->Prop)(Q:VK)(vs:List V):List V->Hp->Prop:=λ zs H=>r vs zs H Q
theorem GC(r:List V->List V->Hp->VK->Prop)(Q:VK)(vs zs:List V)(H:Hp):HW r Q vs zs H=r vs zs H Q:=rfl
def HX(r:List V->List V->Hp->VK->Prop)(tk:TA)(σ:St)(Q:VK):List V->Hp->Prop:=λ vs H=>tk σ H (HW r Q vs)
theorem GD(r:List V->List V->Hp->VK->Prop)(tk:TA)(σ:St)(Q:VK)(vs:List V)(H:Hp):HX r tk σ Q vs H=tk σ H (HW r Q vs):=rfl
def Jy(r:List V->List V->Hp->VK->Prop)(t tk:TA):TE:=λ σ H Q=>t σ H (HX r tk σ Q)
theorem FA(r:List V->List V->Hp->VK->Prop)(t tk:TA)(σ:St)(H:Hp)(Q:VK):Jy r t tk σ H Q=t σ H (HX r tk σ Q):=rfl
theorem vF{X:Cx}{id:String}{x:Str}{p pos:Pos}{e:Expr}{es:List Expr}{kws:List Keyword}{ks:List Str}{r:List V->List V->Hp->VK->Prop}{t tk:TA}(hc:AF X (.builtin id) ks r)(hg:Gl X x)(hm:X.mg x=none)(hv:bootBuiltins x=some (.builtin id))(ha:PA X (e::es) t)(hk:PK X kws tk)(hn:x ≠ "__name__":=by decide)(hdb:(x == ("__debug__":Str))=false:=by decide)
  (hks:(backToKw pos (keywordEach kws X.env)).filterMap (·.1)=ks:=by rfl)
  (h1:backTo pos (starEach (e::es) X.env)=(false,eval e X.env)::backTo pos (starEach es X.env):=by rfl)
  (h2:(backTo pos (starEach (e::es) X.env)).any (·.1)=false:=by rfl)
  (h3:(backToKw pos (keywordEach kws X.env)).all (·.1.isSome)=true:=by rfl)
  (h4:(backToKw pos (keywordEach kws X.env)).any (·.1.isNone)=false:=by rfl):PE X (.Call (.Name x p) (e::es) kws pos) (Jy r t tk):=by
 intro pins s σ H Q I h;refine Mv (ft I hg hm hv ?_ hn hdb);refine callWith_kw (thn (ha pos pins s σ H _ I h) λ us s1 ⟨vs,H1,I1,r1,q1⟩=>thn (hk pos pins s1 σ H1 _ I1 q1) λ ws s2 ⟨zs,H2,I2,r2,q2⟩=>?_) h1 h2 h3 h4;rw [hks];exact hc pins s2 σ H2 vs us zs ws Q I2 r1 r2 q2
section
variable {prog:Program}{w:World}{A:Around}{R:Result->Shared->Prop}{J:Addr}{fp wr:List Addr}{G:Array GenState->Array GenState->Prop}{n:Nat}{P:Nat->Value->Prop}{St:Nat->Shared->Prop}
end
section
variable {prog:Program}{w:World}{A:Around}{R:Result->Shared->Prop}{J:Addr}{fp wr:List Addr}{G:Array GenState->Array GenState->Prop}{n:Nat}{P:Nat->Value->Prop}{St:Nat->Shared->Prop}
end
abbrev PKy:=List Int × List Int
section
variable {prog:Program}{w:World}
end
section
variable {P:Program}{w:World}{H:Hp}{h:Heap}{a:Addr}
end
section
variable {X:Cx}{pins:List (Addr × Obj)}{σ:St}{H:Hp}{s:Shared}{d b:Addr}{k:PKy}{Z:List PKy}{A:Around}{E:Value->Shared->Prop}
end
section
variable {X:Cx}
end
section
variable {X:Cx}{e st:Expr}{te tst:TE}{pos p2:Pos}
end
def Eb:List V->List V->Hp->VK->Prop:=λ vs zs H Q=>∃ p kvs ns,vs=[.ref p]/\zs=[.bl true]/\H p=some (.dK kvs)/\kvs.map (·.1)=ns.map (Sum.inl:Int->Key)/\ns.length < 64/\∀ ms:List Int,ms.Perm ns->ms.Pairwise (· >= ·)->gy (.lst (ms.map V.int)) H Q
theorem xN{p:Addr}{kvs:List (Key × V)}{ns:List Int}{H:Hp}{Q:VK}(e:H p=some (.dK kvs))(hk:kvs.map (·.1)=ns.map (Sum.inl:Int->Key))(hl:ns.length < 64)(q:∀ ms:List Int,ms.Perm ns->ms.Pairwise (· >= ·)->gy (.lst (ms.map V.int)) H Q):Eb [.ref p] [.bl true] H Q:=⟨p,kvs,ns,rfl,rfl,e,hk,hl,q⟩
section
variable {X:Cx}
theorem rY(hc:X.calm=true):AF X (.builtin "sorted") ["reverse"] Eb:=by
 intro pins s σ H vs us zs ws Q I r rz h;obtain⟨p,kvs,ns,rfl,rfl,e,hk,hl,q⟩:=h
 cases rz with
 | cons rb rz=>
 cases rz;cases rb
 cases r with
 | cons r rr=>
  cases rr;cases r;obtain⟨z,hd,xs,rel,dd⟩:=Bh I.hok e;obtain⟨ep,hat⟩:=dd.dictAt;have hlen:kvs.length=xs.length:=NF rel;have hln:xs.length=ns.length:=by rw [←hlen];have:=L6 List.length hk;simpa using this
  show wpAny (model X.prog X.w) X.A (call (.builtin "sorted") [.ref p] [(Str.ofString "reverse",.bool true)]) _ _ _
  refine call_function_entry_kw kind_sorted plain_sorted entry_sorted (args_sorted_rev _ _) ?_;unfold Builtin.«sorted»;refine wpAny_bind (m:=checkCount "sorted" 1 1 _) (wpAny_pure ?_);refine wpAny_bind (W.kdu_collect (A:=X.A.in1) (W.kdl_dict (knd:=ba X.prog X.w) (kvs:=xs) (ep:=ep) hd) (show X.A.in1.handled=none from I.ok.hd hc) hat (by omega) λ h' tk acc kp hacc=>?_);have hal:acc.toList.length=ns.length:=by rw [Array.length_toList,hacc.1,hln]
  have hI:IntsAre acc.toList ns:=by
   refine fh hal λ i u hu=>?_;obtain⟨k,x,hx,hku⟩:=hacc.2 i u (by simpa using hu);have hi:i < kvs.length:=by rw [hlen];exact(K0.mp hx).1
   have h1:kvs[i]? = some kvs[i]:=KU hi;obtain⟨w',hw',rw'⟩:=fY rel h1;rw [hx] at hw';cases hw';have h2:(kvs.map (·.1))[i]? = some k:=by rw [Lh,h1];exact L6 some rw'.1
   rw [hk,Lh] at h2;obtain⟨n,hn,rfl⟩:=Lm.mp h2
   rcases aJ (show lI (Sum.inl n) u=true from hku) with ⟨j,t,e1,e2⟩|⟨j,t,e1,e2⟩
   ·cases e1;exact⟨n,t,hn,e2⟩
   ·cases e1
  refine KW (wpAny_newList ?_ (by rw [hal];exact az (by omega)));have hoL:(h'.push (seqObj "list" acc.toList.toArray 0)).get? h'.objs.size=some (seqObj "list" acc.toList.toArray 0):=La _ rfl;refine KW (MX (wpAny_call_entry_kw slot_list_sort ⟨_,hoL,rfl⟩ entry_list_sort (list_sort_tree_rev hoL hI (by omega) λ out ns' a1 a2 a3=>⟨_,rfl,?_⟩) (args_list_sort_rev _ _)));refine K8 ⟨_,rfl,?_⟩;have I2:Inv X pins σ H { s with heap:=h',toks:=tk }:=I.kept (t':=tk) kp;have fr:=I2.hok.fresh (K3 _);obtain⟨e',he'⟩:=sortedHeap_at (out:=out) hoL;refine⟨.ref h'.objs.size,_,I2.laid (t':=tk) (h':=sortedHeap (h'.push (seqObj "list" acc.toList.toArray 0)) h'.objs.size acc.toList out) (o:=.lst (ns'.map V.int)) (λ b u hb=>?_) (K3 _) ⟨?_,out.toList,e',eh a1,?_⟩,rfl,q ns' a2 a3 _ _ fr (Ext.new fr) ah⟩
  ·have hb':h'.get? b=some u:=hb;have hlt:=K6 hb';rw [sortedHeap_old (Lf hlt) (by rw [size_push'];exact NV hlt)];exact KY _ hb'
  ·rw [K2,a2.length_eq];exact az (by omega)
  ·rw [Array.toArray_toList];exact he'
end
end L2
namespace PH
open PySem L2
def vi:V->Int
 | .int i=>i
 | _=>0
theorem lE{α:Type}(l:List α):(l.filter λ _=>true)=l:=List.filter_eq_self.mpr λ _ _=>rfl
def aj(a:Int × Int):Int × Int:=(a.1,if a.1 > 1 then a.2 else 0)
def axL(axs:List (Int × Int)):List (List Int):=axs.map λ a=>[a.1,a.2]
def bq(axs:List (Int × Int)):Int:=(axs.map λ a=>min 0 ((a.1 - 1) * a.2)).sum
def br(axs:List (Int × Int)):Int:=(axs.map λ a=>max 0 ((a.1 - 1) * a.2)).sum
def oW(axs:List (Int × Int)):Prop:=axs.length<=8/\∀ a∈axs,1<=a.1/\a.1<=1000000000
structure uw(room first:Int)(axs:List (Int × Int)):Prop where
 ax:oW axs
 r1:1<=room
 r2:room<=1000000000000000000
 lo:0<=first+bq (axs.map aj)
 hi:first+br (axs.map aj) < room
theorem oW.kept{axs:List (Int × Int)}(h:oW axs):oW (axs.map aj):=⟨by rw [K2];exact h.1,λ a ha=>by
 obtain⟨b,hb,rfl⟩:=Lo.mp ha;exact h.2 b hb⟩
def dQ(room first:Int)(l:Addr):List (Str × V):=eE "axes" (.ref l) (eE "first" (.int first) (eE "room" (.int room) []))
theorem Ir:¬ (("room":Str) = "axes"):=by decide +kernel
theorem Iq:¬ (("room":Str) = "first"):=by decide +kernel
theorem Iv:¬ (("first":Str) = "axes"):=by decide +kernel
theorem jo(room first:Int)(l:Addr):(dQ room first l).lookup ("room":Str)=some (.int room):=by
 unfold dQ;rw [aI,if_neg Ir,aI,if_neg Iq,aI,if_pos rfl]
theorem dC(room first:Int)(l:Addr):(dQ room first l).lookup ("first":Str)=some (.int first):=by
 unfold dQ;rw [aI,if_neg Iv,aI,if_pos rfl]
theorem dj(room first:Int)(l:Addr):(dQ room first l).lookup ("axes":Str)=some (.ref l):=by
 unfold dQ;rw [aI,if_pos rfl]
theorem xM(room first:Int)(l:Addr){m:Str}(h1:¬ m = "axes")(h2:¬ m = "first")(h3:¬ m = "room"):(dQ room first l).lookup m=none:=by
 unfold dQ;rw [aI,if_neg h1,aI,if_neg h2,aI,if_neg h3];rfl
theorem bE(a:Int × Int)(l:List (Int × Int)):bq (a::l)=min 0 ((a.1 - 1) * a.2)+bq l:=by unfold bq;simp
theorem bF(a:Int × Int)(l:List (Int × Int)):br (a::l)=max 0 ((a.1 - 1) * a.2)+br l:=by unfold br;simp
def Ie(cs:List Int)(a:Int × Int):List Int:=cs.flatMap λ c=>(List.range a.1.toNat).map λ (n:Nat)=>c+(n:Int) * a.2
def Kf(first:Int)(axs:List (Int × Int)):List Int:=axs.foldl Ie [first]
theorem p7(f r:Int)(hr:0 < r)(hf:0<=f):Int.gcd r (f % r)=Int.gcd f r:=by
 obtain⟨n,rfl⟩:=LO hf;obtain⟨m,rfl⟩:=LO (Int.le_of_lt hr)
 show Nat.gcd (m:Int).natAbs (((n:Int) % (m:Int))).natAbs=Nat.gcd (n:Int).natAbs (m:Int).natAbs
 rw [←Int.natCast_emod];simp only [Int.natAbs_natCast];rw [Nat.gcd_comm n m,Nat.gcd_rec m n,Nat.gcd_comm]
theorem Di(a b:Int):Int.gcd (if a < 0 then -a else a) (if b < 0 then -b else b)=Int.gcd a b:=by
 have h:∀ x:Int,(if x < 0 then -x else x).natAbs=x.natAbs:=by
  intro x;split
  ·exact Int.natAbs_neg x
  ·rfl
 show Nat.gcd _ _=Nat.gcd _ _
 rw [h a,h b]
theorem AE(a:Int):0<=(if a < 0 then -a else a):=by split<;>omega
theorem p6(f:Int)(hf:0<=f):(Int.gcd f 0:Int)=f:=by
 rw [Int.gcd_zero_right];omega
def iZ(ns:List Int):Int:=ns.foldl (λ f n=>(Int.gcd f n:Int)) 0
theorem mv(ns:List Int)(i:Nat)(z:Int)(h:ns[i]? = some z):iZ (ns.take (i+1))=(Int.gcd (iZ (ns.take i)) z:Int):=by
 unfold iZ;rw [take_add_one,h];simp [List.foldl_append]
abbrev Tm3:=Int × Int × Int
def bf(zs:List Tm3)(cs:List (Int × Int)):Int:=((zs.zip cs).map λ p=>p.1.1 * p.2.1).sum
def ck(zs:List Tm3)(cs:List (Int × Int)):Int:=((zs.zip cs).map λ p=>p.1.1 * p.2.2).sum
def bZ(zs:List Tm3)(cs:List (Int × Int)):List Int:=((zs.zip cs).filter λ p=>decide (p.2.1 < p.2.2)).map λ p=>p.1.1
def cj(g l gr r:Int):Bool:=decide (g < l) || decide (gr < g) || (decide (1 < r) && decide (0 < (g - l) % r))
def cV(zs:List Tm3)(cs:List (Int × Int))(g:Int):Bool:=cj g (bf zs cs) (ck zs cs) (iZ (bZ zs cs))
structure cW(zs:List Tm3):Prop where
 len:zs.length<=17
 all:∀ z∈zs,(1<=z.1/\z.1<=2000000000000000000)/\(-2000000000<=z.2.1/\z.2.1<=2000000000)/\z.2.1 < z.2.2/\z.2.2<=2000000000
structure cU(zs:List Tm3)(cs:List (Int × Int)):Prop where
 len:cs.length=zs.length
 all:∀ p∈zs.zip cs,p.1.2.1<=p.2.1/\p.2.1<=p.2.2/\p.2.2<=p.1.2.2
theorem om(ns:List Int):0<=iZ ns:=by
 have:∀ (ns:List Int) (a:Int),0<=a->0<=ns.foldl (λ f n=>(Int.gcd f n:Int)) a:=by
  intro ns
  induction ns with
  | nil=>intro a h;exact h
  | cons n ns ih=>intro a h;exact ih _ (by show (0:Int)<=(Int.gcd a n:Int);omega)
 exact this ns 0 (Lp _)
def trP(z:Tm3)(x:V)(H:Hp):Prop:=∃ q,x=.ref q/\H q=some (.tup [.int z.1,.int z.2.1,.int z.2.2])
theorem trP.ext{z:Tm3}{x:V}{H H':Hp}(h:trP z x H)(e:Ext H H'):trP z x H':=by
 obtain⟨q,rfl,hq⟩:=h;exact⟨q,rfl,e.at hq⟩
def LAt{α:Type}(R:α->V->Hp->Prop)(H:Hp)(p:Addr)(zs:List α):Prop:=∃ ys,H p=some (.lst ys)/\Al (λ z y=>R z y H) zs ys
theorem LAt.ext{α:Type}{R:α->V->Hp->Prop}{H H':Hp}{p:Addr}{zs:List α}(hR:∀ z y H H',R z y H->Ext H H'->R z y H')(h:LAt R H p zs)(e:Ext H H'):LAt R H' p zs:=by
 obtain⟨ys,hp,al⟩:=h;exact⟨ys,e.at hp,al.imp λ _ _ r=>hR _ _ _ _ r e⟩
abbrev gz(H:Hp)(p:Addr)(zs:List Tm3):Prop:=LAt trP H p zs
abbrev du(H:Hp)(p:Addr)(cs:List (Int × Int)):Prop:=LAt axP H p cs
theorem bL{H H':Hp}{p:Addr}{zs:List Tm3}(h:gz H p zs)(e:Ext H H'):gz H' p zs:=LAt.ext (λ _ _ _ _ r e=>r.ext e) h e
theorem aC{H H':Hp}{p:Addr}{zs:List (Int × Int)}(h:du H p zs)(e:Ext H H'):du H' p zs:=LAt.ext (λ _ _ _ _ r e=>r.ext e) h e
theorem lL{H:Hp}{zs:List Tm3}{ys:List V}(al:Al (λ z y=>trP z y H) zs ys){k:Nat}(hk:k < zs.length):∃ q,atI ys (0+(k:Int))=some (.ref q)/\H q=some (.tup [.int (zs.getD k default).1,.int (zs.getD k default).2.1,.int (zs.getD k default).2.2]):=by
 have hy:ys[k]? = some (ys[k]'(by rw [al.1];exact hk)):=KU _;obtain⟨q,h1,h2⟩:=al.2 k _ _ (KU hk) hy;refine⟨q,by rw [LF];exact cZ (by rw [hy,h1]),?_⟩;rw [show zs.getD k default=zs[k] by simp [List.getD,KU hk]];exact h2
theorem fq{H:Hp}{zs:List (Int × Int)}{ys:List V}(al:Al (λ z y=>axP z y H) zs ys){k:Nat}(hk:k < zs.length):∃ q,atI ys (0+(k:Int))=some (.ref q)/\H q=some (.tup [.int (zs.getD k default).1,.int (zs.getD k default).2]):=by
 have hy:ys[k]? = some (ys[k]'(by rw [al.1];exact hk)):=KU _;obtain⟨q,h1,h2⟩:=al.2 k _ _ (KU hk) hy;refine⟨q,by rw [LF];exact cZ (by rw [hy,h1]),?_⟩;rw [show zs.getD k default=zs[k] by simp [List.getD,KU hk]];exact h2
theorem Bi{H:Hp}{zs:List (Int × Int)}{ys:List V}(al:Al (λ z y=>axP z y H) zs ys):Al (AH H) (zs.map λ z=>[z.1,z.2]) ys:=by
 refine⟨by rw [al.1,K2],λ i z y hz hy=>?_⟩;rw [Lh] at hz;obtain⟨a,ha,rfl⟩:=Lm.mp hz;exact al.2 i a y ha hy
theorem Al.cons'{α:Type}{R:α->V->Prop}{z:α}{y:V}{zs:List α}{ys:List V}(r:R z y)(h:Al R zs ys):Al R (z::zs) (y::ys):=⟨by simp [h.1],λ i z' y' a b=>by
 cases i with
 | zero=>cases a;cases b;exact r
 | succ n=>exact h.2 n z' y' (by simpa using a) (by simpa using b)⟩
theorem axP.upd{z:Int × Int}{y:V}{H:Hp}{p:Addr}{xs:List V}{o:HO}(h:axP z y H)(hp:H p=some (.lst xs)):axP z y (upd H p o):=by
 obtain⟨q,rfl,hq⟩:=h;exact⟨q,rfl,by rw [ae (λ e=>by rw [e,hp] at hq;cases hq)];exact hq⟩
def top(i:Nat):Stmt:=PySem.Challenge.pw_pacehall_k59_whole_blocks_of_one_whole.main.body.getD i (.Pass ⟨0,0,0,0⟩)
abbrev fU:Stmt:=top 2
theorem sy:ao ["thing"] ["thing"] (aa fU):=⟨rfl,rfl,rfl,by decide +kernel,rfl,by decide +kernel,by decide +kernel⟩
abbrev ip:Stmt:=top 3
theorem di:ao ["one", "other", "found", "rest", "smaller"] ["one", "other"] (aa ip):=⟨rfl,rfl,rfl,by decide +kernel,rfl,by decide +kernel,by decide +kernel⟩
abbrev eo:Stmt:=top 4
theorem cR:ao ["numbers", "found", "number"] ["numbers"] (aa eo):=⟨rfl,rfl,rfl,by decide +kernel,rfl,by decide +kernel,by decide +kernel⟩
abbrev dD:Stmt:=top 6
theorem oQ:ao ["terms", "case"] ["terms", "case"] (aa dD):=⟨rfl,rfl,rfl,by decide +kernel,rfl,by decide +kernel,by decide +kernel⟩
abbrev bY:Stmt:=top 7
theorem jc:ao ["terms", "case"] ["terms", "case"] (aa bY):=⟨rfl,rfl,rfl,by decide +kernel,rfl,by decide +kernel,by decide +kernel⟩
abbrev fy:Stmt:=top 8
theorem xm:ao ["terms", "case"] ["terms", "case"] (aa fy):=⟨rfl,rfl,rfl,by decide +kernel,rfl,by decide +kernel,by decide +kernel⟩
abbrev kE:Stmt:=top 9
theorem kT:ao ["terms", "goal", "case", "least", "rest"] ["terms", "goal", "case"] (aa kE):=⟨rfl,rfl,rfl,by decide +kernel,rfl,by decide +kernel,by decide +kernel⟩
abbrev dn:Stmt:=top 17
abbrev jr:Stmt:=top 18
abbrev eZ:Stmt:=top 23
theorem oS:ao ["thing", "low", "high"] ["thing", "low", "high"] (aa eZ):=⟨rfl,rfl,rfl,by decide +kernel,rfl,by decide +kernel,by decide +kernel⟩
abbrev ic:Stmt:=top 24
theorem xo:ao ["thing"] ["thing"] (aa ic):=⟨rfl,rfl,rfl,by decide +kernel,rfl,by decide +kernel,by decide +kernel⟩
abbrev ik:Stmt:=top 25
theorem xp:ao ["thing"] ["thing"] (aa ik):=⟨rfl,rfl,rfl,by decide +kernel,rfl,by decide +kernel,by decide +kernel⟩
abbrev eM:Stmt:=top 26
theorem sC:ao ["thing"] ["thing"] (aa eM):=⟨rfl,rfl,rfl,by decide +kernel,rfl,by decide +kernel,by decide +kernel⟩
abbrev eY:Stmt:=top 27
theorem oR:ao ["axis"] ["axis"] (aa eY):=⟨rfl,rfl,rfl,by decide +kernel,rfl,by decide +kernel,by decide +kernel⟩
abbrev bT:Stmt:=fN (top 28) 0
theorem iW:ao ["self", "room", "first", "axes"] ["self", "room", "first", "axes"] (aa bT):=⟨rfl,rfl,rfl,by decide +kernel,rfl,by decide +kernel,by decide +kernel⟩
abbrev gn:Stmt:=fN (top 28) 1
abbrev gq:Stmt:=fN (top 28) 2
abbrev iF:Stmt:=fN (top 28) 4
abbrev cO:Stmt:=fN (top 28) 7
theorem nh:ao ["self"] ["self"] (aa cO):=⟨rfl,rfl,rfl,by decide +kernel,rfl,by decide +kernel,by decide +kernel⟩
abbrev bS:Stmt:=fN (top 28) 8
theorem iV:ao ["self"] ["self"] (aa bS):=⟨rfl,rfl,rfl,by decide +kernel,rfl,by decide +kernel,by decide +kernel⟩
abbrev c8:Stmt:=top 30
theorem jb:ao ["one", "other"] ["one", "other"] (aa c8):=⟨rfl,rfl,rfl,by decide +kernel,rfl,by decide +kernel,by decide +kernel⟩
abbrev hG:Stmt:=top 32
theorem DA:ao ["one", "other"] ["one", "other"] (aa hG):=⟨rfl,rfl,rfl,by decide +kernel,rfl,by decide +kernel,by decide +kernel⟩
abbrev eL:Stmt:=top 33
theorem bJ:ao ["one", "other", "lows", "highs", "pace", "size", "times", "reach", "terms"] ["one", "other"] (aa eL):=⟨rfl,rfl,rfl,by decide +kernel,rfl,by decide +kernel,by decide +kernel⟩
abbrev cL:Stmt:=top 36
theorem m9:ao ["terms"] ["terms"] (aa cL):=⟨rfl,rfl,rfl,by decide +kernel,rfl,by decide +kernel,by decide +kernel⟩
abbrev kD:Stmt:=top 37
theorem kS:ao ["case", "k", "at", "upper", "lower"] ["case", "k", "at"] (aa kD):=⟨rfl,rfl,rfl,by decide +kernel,rfl,by decide +kernel,by decide +kernel⟩
abbrev aQ:Stmt:=top 38
theorem gj:ao ["terms", "goal", "case"] ["terms", "goal", "case"] (aa aQ):=⟨rfl,rfl,rfl,by decide +kernel,rfl,by decide +kernel,by decide +kernel⟩
abbrev fS:Stmt:=top 39
theorem sx:ao ["times", "bounds", "above_least", "below_greatest"] ["times", "bounds", "above_least", "below_greatest"] (aa fS):=⟨rfl,rfl,rfl,by decide +kernel,rfl,by decide +kernel,by decide +kernel⟩
abbrev ib:Stmt:=top 40
theorem bw:ao ["terms", "goal", "case", "above_least", "below_greatest", "best", "k", "bounds", "kept"] ["terms", "goal", "case"] (aa ib):=⟨rfl,rfl,rfl,by decide +kernel,rfl,by decide +kernel,by decide +kernel⟩
abbrev bG:Stmt:=top 41
theorem av:ao ["one", "other", "terms", "numbers", "left", "term", "number", "place", "pace", "size", "taken", "many"] ["one", "other", "terms", "numbers"] (aa bG):=⟨rfl,rfl,rfl,by decide +kernel,rfl,by decide +kernel,by decide +kernel⟩
abbrev eG:Stmt:=top 42
theorem bz:ao ["one", "other", "most", "found", "terms", "goal", "cases", "paper", "looked", "case", "step", "numbers"] ["one", "other", "most"] (aa eG):=⟨rfl,rfl,rfl,by decide +kernel,rfl,by decide +kernel,by decide +kernel⟩
abbrev fz:Stmt:=top 43
theorem xn:ao ["thing", "word", "many"] ["thing", "word", "many"] (aa fz):=⟨rfl,rfl,rfl,by decide +kernel,rfl,by decide +kernel,by decide +kernel⟩
abbrev cp:Stmt:=top 44
theorem lC:ao ["terms", "case", "number"] ["terms", "case", "number"] (aa cp):=⟨rfl,rfl,rfl,by decide +kernel,rfl,by decide +kernel,by decide +kernel⟩
abbrev il:Stmt:=top 45
theorem mC:ao ["terms", "goal", "case", "step", "least"] ["terms", "goal", "case", "step"] (aa il):=⟨rfl,rfl,rfl,by decide +kernel,rfl,by decide +kernel,by decide +kernel⟩
abbrev fR:Stmt:=top 46
theorem sv:ao ["case", "step"] ["case", "step"] (aa fR):=⟨rfl,rfl,rfl,by decide +kernel,rfl,by decide +kernel,by decide +kernel⟩
abbrev fV:Stmt:=top 47
theorem dm:ao ["one", "other", "paper", "found", "cases", "step", "case"] ["one", "other", "paper"] (aa fV):=⟨rfl,rfl,rfl,by decide +kernel,rfl,by decide +kernel,by decide +kernel⟩
abbrev ff:Stmt:=top 49
theorem dH:ao ["_law_script", "_law_k", "_law_many", "_law_number", "_law_cell_here"] ["_law_script", "_law_k", "_law_many"] (aa ff):=⟨rfl,rfl,rfl,by decide +kernel,rfl,by decide +kernel,by decide +kernel⟩
abbrev er:Stmt:=top 50
theorem nc:ao ["_law_found"] ["_law_found"] (aa er):=⟨rfl,rfl,rfl,by decide +kernel,rfl,by decide +kernel,by decide +kernel⟩
abbrev cM:Stmt:=top 51
theorem aL:ao ["_law_one", "_law_other", "_law_ranges", "_law_axes_here", "_law_sign", "_law_size", "_law_pace", "_law_low", "_law_high", "_law_found"] ["_law_one", "_law_other"] (aa cM):=⟨rfl,rfl,rfl,by decide +kernel,rfl,by decide +kernel,by decide +kernel⟩
abbrev cy:Stmt:=top 52
theorem cz:ao ["_law_place", "_law_axes_here", "_law_at", "_law_axis"] ["_law_place", "_law_axes_here"] (aa cy):=⟨rfl,rfl,rfl,by decide +kernel,rfl,by decide +kernel,by decide +kernel⟩
abbrev dF:Stmt:=top 53
theorem oT:ao ["_law_first", "_law_axes_here", "_law_place"] ["_law_first", "_law_axes_here", "_law_place"] (aa dF):=⟨rfl,rfl,rfl,by decide +kernel,rfl,by decide +kernel,by decide +kernel⟩
abbrev fW:Stmt:=top 54
theorem sD:ao ["_law_found", "_law_one", "_law_other", "_law_goal"] ["_law_found", "_law_one", "_law_other", "_law_goal"] (aa fW):=⟨rfl,rfl,rfl,by decide +kernel,rfl,by decide +kernel,by decide +kernel⟩
abbrev cw:Stmt:=top 55
theorem iO:ao ["_law_terms_here", "_law_case", "_law_least"] ["_law_terms_here", "_law_case"] (aa cw):=⟨rfl,rfl,rfl,by decide +kernel,rfl,by decide +kernel,by decide +kernel⟩
abbrev c9:Stmt:=top 56
theorem aW:ao ["_law_numbers", "_law_found", "_law_other", "_law_one"] ["_law_numbers"] (aa c9):=⟨rfl,rfl,rfl,by decide +kernel,rfl,by decide +kernel,by decide +kernel⟩
abbrev cN:Stmt:=top 57
theorem cS:ao ["_law_terms_here", "_law_goal", "_law_case", "_law_least", "_law_greatest", "_law_rest_here"] ["_law_terms_here", "_law_goal", "_law_case"] (aa cN):=⟨rfl,rfl,rfl,by decide +kernel,rfl,by decide +kernel,by decide +kernel⟩
abbrev fb:Stmt:=top 58
theorem iP:ao ["_law_terms_here", "_law_goal", "_law_case", "_law_by", "_law_k"] ["_law_terms_here", "_law_goal", "_law_case", "_law_by"] (aa fb):=⟨rfl,rfl,rfl,by decide +kernel,rfl,by decide +kernel,by decide +kernel⟩
abbrev dI:Stmt:=top 59
theorem bc:ao ["_law_terms_here", "_law_goal", "_law_case", "_law_step", "_law_least", "_law_greatest", "_law_word", "_law_k", "_law_at"] ["_law_terms_here", "_law_goal", "_law_case", "_law_step"] (aa dI):=⟨rfl,rfl,rfl,by decide +kernel,rfl,by decide +kernel,by decide +kernel⟩
abbrev dE:Stmt:=top 60
theorem bX:ao ["_law_terms_here", "_law_goal", "_law_paper", "_law_bare", "_law_cases", "_law_step", "_law_case", "_law_more"] ["_law_terms_here", "_law_goal", "_law_paper", "_law_bare"] (aa dE):=⟨rfl,rfl,rfl,by decide +kernel,rfl,by decide +kernel,by decide +kernel⟩
abbrev eB:Stmt:=top 61
theorem ng:ao ["_law_found", "_law_terms_here", "_law_goal", "_law_most"] ["_law_found", "_law_terms_here", "_law_goal", "_law_most"] (aa eB):=⟨rfl,rfl,rfl,by decide +kernel,rfl,by decide +kernel,by decide +kernel⟩
abbrev eA:Stmt:=top 62
theorem eD:ao ["_law_cell_here", "_law_size", "_law_step", "_law_many", "_law_start"] ["_law_cell_here", "_law_size", "_law_step"] (aa eA):=⟨rfl,rfl,rfl,by decide +kernel,rfl,by decide +kernel,by decide +kernel⟩
abbrev fe:Stmt:=top 63
theorem fk:ao ["_law_one", "_law_other", "_law_step", "_law_first", "_law_last"] ["_law_one", "_law_other", "_law_step"] (aa fe):=⟨rfl,rfl,rfl,by decide +kernel,rfl,by decide +kernel,by decide +kernel⟩
abbrev fg:Stmt:=top 64
theorem aS:ao ["_law_blocks", "_law_paces", "_law_steps", "_law_first", "_law_axes_here", "_law_k", "_law_start", "_law_many", "_law_way"] ["_law_blocks", "_law_paces", "_law_steps"] (aa fg):=⟨rfl,rfl,rfl,by decide +kernel,rfl,by decide +kernel,by decide +kernel⟩
abbrev et:Stmt:=top 65
theorem gv:ao ["_law_found", "_law_one", "_law_other", "_law_goal", "_law_meet_here", "_law_terms_here"] ["_law_found", "_law_one", "_law_other", "_law_goal", "_law_meet_here"] (aa et):=⟨rfl,rfl,rfl,by decide +kernel,rfl,by decide +kernel,by decide +kernel⟩
abbrev jS:Stmt:=top 66
theorem dw:ao ["_law_script", "_law_paces", "_law_steps", "_law_blocks", "_law_room", "_law_meet_here", "_law_k", "_law_size", "_law_j", "_law_first", "_law_one", "_law_second", "_law_other", "_law_here", "_law_there", "_law_most", "_law_found"] ["_law_script"] (aa jS):=⟨rfl,rfl,rfl,by decide +kernel,rfl,by decide +kernel,by decide +kernel⟩
set_option genInjectivity false in
structure Adr where
 a_PaceError:Addr
 a_NoPlace:Addr
 a_NoView:Addr
 a_NoPair:Addr
 a_NoMost:Addr
 a_View:Addr
 a_is_whole:Addr
 d_is_whole:FuncData
 a_divisor:Addr
 d_divisor:FuncData
 a_divisor_of:Addr
 d_divisor_of:FuncData
 a_least_sum:Addr
 d_least_sum:FuncData
 a_greatest_sum:Addr
 d_greatest_sum:FuncData
 a_rest_of:Addr
 d_rest_of:FuncData
 a_end_of:Addr
 d_end_of:FuncData
 a_is_number_below:Addr
 d_is_number_below:FuncData
 a_is_place:Addr
 d_is_place:FuncData
 a_is_within:Addr
 d_is_within:FuncData
 a_is_size:Addr
 d_is_size:FuncData
 a_is_axis:Addr
 d_is_axis:FuncData
 a_are_axes:Addr
 d_are_axes:FuncData
 a_kept_axis:Addr
 d_kept_axis:FuncData
 a_View___init__:Addr
 d_View___init__:FuncData
 a_View_sizes:Addr
 d_View_sizes:FuncData
 a_View_paces:Addr
 d_View_paces:FuncData
 a_View_cell:Addr
 d_View_cell:FuncData
 a_View_least:Addr
 d_View_least:FuncData
 a_View_greatest:Addr
 d_View_greatest:FuncData
 a_refuse_rooms:Addr
 d_refuse_rooms:FuncData
 a_pulls:Addr
 d_pulls:FuncData
 a_gathered:Addr
 d_gathered:FuncData
 a_first_case:Addr
 d_first_case:FuncData
 a_parted:Addr
 d_parted:FuncData
 a_numbers_at_once:Addr
 d_numbers_at_once:FuncData
 a_narrowed:Addr
 d_narrowed:FuncData
 a_parting:Addr
 d_parting:FuncData
 a_places_by_numbers:Addr
 d_places_by_numbers:FuncData
 a_shares:Addr
 d_shares:FuncData
 a_is_step:Addr
 d_is_step:FuncData
 a_divides_all:Addr
 d_divides_all:FuncData
 a_ends_by:Addr
 d_ends_by:FuncData
 a_parts_by:Addr
 d_parts_by:FuncData
 a_is_apart:Addr
 d_is_apart:FuncData
 a__law_draw:Addr
 d__law_draw:FuncData
 a__law_whole:Addr
 d__law_whole:FuncData
 a__law_terms:Addr
 d__law_terms:FuncData
 a__law_is_place:Addr
 d__law_is_place:FuncData
 a__law_cell:Addr
 d__law_cell:FuncData
 a__law_met:Addr
 d__law_met:FuncData
 a__law_sums:Addr
 d__law_sums:FuncData
 a__law_divisor:Addr
 d__law_divisor:FuncData
 a__law_ended:Addr
 d__law_ended:FuncData
 a__law_rest:Addr
 d__law_rest:FuncData
 a__law_behind:Addr
 d__law_behind:FuncData
 a__law_left:Addr
 d__law_left:FuncData
 a__law_apart:Addr
 d__law_apart:FuncData
 a__law_block:Addr
 d__law_block:FuncData
 a__law_meet:Addr
 d__law_meet:FuncData
 a__law_axes:Addr
 d__law_axes:FuncData
 a__law_right:Addr
 d__law_right:FuncData
 a_law:Addr
 d_law:FuncData
structure Tx(K:W.Frag)(mg:Str->Option Value)(t:Adr):Prop where
 m_PaceError:mg "PaceError"=some (.ref t.a_PaceError)
 m_NoPlace:mg "NoPlace"=some (.ref t.a_NoPlace)
 m_NoView:mg "NoView"=some (.ref t.a_NoView)
 m_NoPair:mg "NoPair"=some (.ref t.a_NoPair)
 m_NoMost:mg "NoMost"=some (.ref t.a_NoMost)
 m_View:mg "View"=some (.ref t.a_View)
 m_MOST_ROOM:∃ tk,mg "MOST_ROOM"=some (.int 1000000000000000000 tk)
 m_MOST_SIZE:∃ tk,mg "MOST_SIZE"=some (.int 1000000000 tk)
 m_MOST_AXES:∃ tk,mg "MOST_AXES"=some (.int 8 tk)
 m_MOST_CASES:∃ tk,mg "MOST_CASES"=some (.int 100000 tk)
 cl_View:Cls K t.a_View
 na_View_axes:dP K t.a_View "axes"
 na_View_first:dP K t.a_View "first"
 na_View_room:dP K t.a_View "room"
 mk_View:Mk K t.a_View t.a_View___init__
 mt_View_sizes:AJ K t.a_View "sizes" t.a_View_sizes
 mt_View_paces:AJ K t.a_View "paces" t.a_View_paces
 mt_View_cell:AJ K t.a_View "cell" t.a_View_cell
 mt_View_least:AJ K t.a_View "least" t.a_View_least
 mt_View_greatest:AJ K t.a_View "greatest" t.a_View_greatest
 F_is_whole:Fun K "is_whole" "is_whole" fU t.a_is_whole t.d_is_whole
 m_is_whole:mg "is_whole"=some (.ref t.a_is_whole)
 b_is_whole:aA K t.d_is_whole ["thing"] []
 F_divisor:Fun K "divisor" "divisor" ip t.a_divisor t.d_divisor
 m_divisor:mg "divisor"=some (.ref t.a_divisor)
 b_divisor:aA K t.d_divisor ["one", "other"] []
 F_divisor_of:Fun K "divisor_of" "divisor_of" eo t.a_divisor_of t.d_divisor_of
 m_divisor_of:mg "divisor_of"=some (.ref t.a_divisor_of)
 b_divisor_of:aA K t.d_divisor_of ["numbers"] []
 F_least_sum:Fun K "least_sum" "least_sum" dD t.a_least_sum t.d_least_sum
 m_least_sum:mg "least_sum"=some (.ref t.a_least_sum)
 b_least_sum:aA K t.d_least_sum ["terms", "case"] []
 F_greatest_sum:Fun K "greatest_sum" "greatest_sum" bY t.a_greatest_sum t.d_greatest_sum
 m_greatest_sum:mg "greatest_sum"=some (.ref t.a_greatest_sum)
 b_greatest_sum:aA K t.d_greatest_sum ["terms", "case"] []
 F_rest_of:Fun K "rest_of" "rest_of" fy t.a_rest_of t.d_rest_of
 m_rest_of:mg "rest_of"=some (.ref t.a_rest_of)
 b_rest_of:aA K t.d_rest_of ["terms", "case"] []
 F_end_of:Fun K "end_of" "end_of" kE t.a_end_of t.d_end_of
 m_end_of:mg "end_of"=some (.ref t.a_end_of)
 b_end_of:aA K t.d_end_of ["terms", "goal", "case"] []
 F_is_number_below:Fun K "is_number_below" "is_number_below" dn t.a_is_number_below t.d_is_number_below
 m_is_number_below:mg "is_number_below"=some (.ref t.a_is_number_below)
 b_is_number_below:aA K t.d_is_number_below ["thing", "bound"] []
 F_is_place:Fun K "is_place" "is_place" jr t.a_is_place t.d_is_place
 m_is_place:mg "is_place"=some (.ref t.a_is_place)
 b_is_place:aA K t.d_is_place ["sizes", "thing"] []
 F_is_within:Fun K "is_within" "is_within" eZ t.a_is_within t.d_is_within
 m_is_within:mg "is_within"=some (.ref t.a_is_within)
 b_is_within:aA K t.d_is_within ["thing", "low", "high"] []
 F_is_size:Fun K "is_size" "is_size" ic t.a_is_size t.d_is_size
 m_is_size:mg "is_size"=some (.ref t.a_is_size)
 b_is_size:aA K t.d_is_size ["thing"] []
 F_is_axis:Fun K "is_axis" "is_axis" ik t.a_is_axis t.d_is_axis
 m_is_axis:mg "is_axis"=some (.ref t.a_is_axis)
 b_is_axis:aA K t.d_is_axis ["thing"] []
 F_are_axes:Fun K "are_axes" "are_axes" eM t.a_are_axes t.d_are_axes
 m_are_axes:mg "are_axes"=some (.ref t.a_are_axes)
 b_are_axes:aA K t.d_are_axes ["thing"] []
 F_kept_axis:Fun K "kept_axis" "kept_axis" eY t.a_kept_axis t.d_kept_axis
 m_kept_axis:mg "kept_axis"=some (.ref t.a_kept_axis)
 b_kept_axis:aA K t.d_kept_axis ["axis"] []
 F_View___init__:Fun K "__init__" "View.__init__" bT t.a_View___init__ t.d_View___init__
 b_View___init__:aA K t.d_View___init__ ["self", "room", "first", "axes"] []
 F_View_sizes:Fun K "sizes" "View.sizes" gn t.a_View_sizes t.d_View_sizes
 b_View_sizes:aA K t.d_View_sizes ["self"] []
 F_View_paces:Fun K "paces" "View.paces" gq t.a_View_paces t.d_View_paces
 b_View_paces:aA K t.d_View_paces ["self"] []
 F_View_cell:Fun K "cell" "View.cell" iF t.a_View_cell t.d_View_cell
 b_View_cell:aA K t.d_View_cell ["self", "place"] []
 F_View_least:Fun K "least" "View.least" cO t.a_View_least t.d_View_least
 b_View_least:aA K t.d_View_least ["self"] []
 F_View_greatest:Fun K "greatest" "View.greatest" bS t.a_View_greatest t.d_View_greatest
 b_View_greatest:aA K t.d_View_greatest ["self"] []
 F_refuse_rooms:Fun K "refuse_rooms" "refuse_rooms" c8 t.a_refuse_rooms t.d_refuse_rooms
 m_refuse_rooms:mg "refuse_rooms"=some (.ref t.a_refuse_rooms)
 b_refuse_rooms:aA K t.d_refuse_rooms ["one", "other"] []
 F_pulls:Fun K "pulls" "pulls" hG t.a_pulls t.d_pulls
 m_pulls:mg "pulls"=some (.ref t.a_pulls)
 b_pulls:aA K t.d_pulls ["one", "other"] []
 F_gathered:Fun K "gathered" "gathered" eL t.a_gathered t.d_gathered
 m_gathered:mg "gathered"=some (.ref t.a_gathered)
 b_gathered:aA K t.d_gathered ["one", "other"] []
 F_first_case:Fun K "first_case" "first_case" cL t.a_first_case t.d_first_case
 m_first_case:mg "first_case"=some (.ref t.a_first_case)
 b_first_case:aA K t.d_first_case ["terms"] []
 F_parted:Fun K "parted" "parted" kD t.a_parted t.d_parted
 m_parted:mg "parted"=some (.ref t.a_parted)
 b_parted:aA K t.d_parted ["case", "k", "at"] []
 F_numbers_at_once:Fun K "numbers_at_once" "numbers_at_once" aQ t.a_numbers_at_once t.d_numbers_at_once
 m_numbers_at_once:mg "numbers_at_once"=some (.ref t.a_numbers_at_once)
 b_numbers_at_once:aA K t.d_numbers_at_once ["terms", "goal", "case"] []
 F_narrowed:Fun K "narrowed" "narrowed" fS t.a_narrowed t.d_narrowed
 m_narrowed:mg "narrowed"=some (.ref t.a_narrowed)
 b_narrowed:aA K t.d_narrowed ["times", "bounds", "above_least", "below_greatest"] []
 F_parting:Fun K "parting" "parting" ib t.a_parting t.d_parting
 m_parting:mg "parting"=some (.ref t.a_parting)
 b_parting:aA K t.d_parting ["terms", "goal", "case"] []
 F_places_by_numbers:Fun K "places_by_numbers" "places_by_numbers" bG t.a_places_by_numbers t.d_places_by_numbers
 m_places_by_numbers:mg "places_by_numbers"=some (.ref t.a_places_by_numbers)
 b_places_by_numbers:aA K t.d_places_by_numbers ["one", "other", "terms", "numbers"] []
 F_shares:Hk K "shares" "shares" eG t.a_shares t.d_shares
 m_shares:mg "shares"=some (.ref t.a_shares)
 b_shares:aA K t.d_shares ["one", "other", "most"] []
 b_shares_2:∃ tk,aA K t.d_shares ["one", "other", "most"] [Value.int 1000 tk]
 F_is_step:Fun K "is_step" "is_step" fz t.a_is_step t.d_is_step
 m_is_step:mg "is_step"=some (.ref t.a_is_step)
 b_is_step:aA K t.d_is_step ["thing", "word", "many"] []
 F_divides_all:Fun K "divides_all" "divides_all" cp t.a_divides_all t.d_divides_all
 m_divides_all:mg "divides_all"=some (.ref t.a_divides_all)
 b_divides_all:aA K t.d_divides_all ["terms", "case", "number"] []
 F_ends_by:Fun K "ends_by" "ends_by" il t.a_ends_by t.d_ends_by
 m_ends_by:mg "ends_by"=some (.ref t.a_ends_by)
 b_ends_by:aA K t.d_ends_by ["terms", "goal", "case", "step"] []
 F_parts_by:Fun K "parts_by" "parts_by" fR t.a_parts_by t.d_parts_by
 m_parts_by:mg "parts_by"=some (.ref t.a_parts_by)
 b_parts_by:aA K t.d_parts_by ["case", "step"] []
 F_is_apart:Fun K "is_apart" "is_apart" fV t.a_is_apart t.d_is_apart
 m_is_apart:mg "is_apart"=some (.ref t.a_is_apart)
 b_is_apart:aA K t.d_is_apart ["one", "other", "paper"] []
 F__law_draw:Fun K "_law_draw" "_law_draw" ff t.a__law_draw t.d__law_draw
 m__law_draw:mg "_law_draw"=some (.ref t.a__law_draw)
 b__law_draw:aA K t.d__law_draw ["_law_script", "_law_k", "_law_many"] []
 F__law_whole:Fun K "_law_whole" "_law_whole" er t.a__law_whole t.d__law_whole
 m__law_whole:mg "_law_whole"=some (.ref t.a__law_whole)
 b__law_whole:aA K t.d__law_whole ["_law_found"] []
 F__law_terms:Fun K "_law_terms" "_law_terms" cM t.a__law_terms t.d__law_terms
 m__law_terms:mg "_law_terms"=some (.ref t.a__law_terms)
 b__law_terms:aA K t.d__law_terms ["_law_one", "_law_other"] []
 F__law_is_place:Fun K "_law_is_place" "_law_is_place" cy t.a__law_is_place t.d__law_is_place
 m__law_is_place:mg "_law_is_place"=some (.ref t.a__law_is_place)
 b__law_is_place:aA K t.d__law_is_place ["_law_place", "_law_axes_here"] []
 F__law_cell:Fun K "_law_cell" "_law_cell" dF t.a__law_cell t.d__law_cell
 m__law_cell:mg "_law_cell"=some (.ref t.a__law_cell)
 b__law_cell:aA K t.d__law_cell ["_law_first", "_law_axes_here", "_law_place"] []
 F__law_met:Fun K "_law_met" "_law_met" fW t.a__law_met t.d__law_met
 m__law_met:mg "_law_met"=some (.ref t.a__law_met)
 b__law_met:aA K t.d__law_met ["_law_found", "_law_one", "_law_other", "_law_goal"] []
 F__law_sums:Fun K "_law_sums" "_law_sums" cw t.a__law_sums t.d__law_sums
 m__law_sums:mg "_law_sums"=some (.ref t.a__law_sums)
 b__law_sums:aA K t.d__law_sums ["_law_terms_here", "_law_case"] []
 F__law_divisor:Fun K "_law_divisor" "_law_divisor" c9 t.a__law_divisor t.d__law_divisor
 m__law_divisor:mg "_law_divisor"=some (.ref t.a__law_divisor)
 b__law_divisor:aA K t.d__law_divisor ["_law_numbers"] []
 F__law_ended:Fun K "_law_ended" "_law_ended" cN t.a__law_ended t.d__law_ended
 m__law_ended:mg "_law_ended"=some (.ref t.a__law_ended)
 b__law_ended:aA K t.d__law_ended ["_law_terms_here", "_law_goal", "_law_case"] []
 F__law_rest:Fun K "_law_rest" "_law_rest" fb t.a__law_rest t.d__law_rest
 m__law_rest:mg "_law_rest"=some (.ref t.a__law_rest)
 b__law_rest:aA K t.d__law_rest ["_law_terms_here", "_law_goal", "_law_case", "_law_by"] []
 F__law_behind:Fun K "_law_behind" "_law_behind" dI t.a__law_behind t.d__law_behind
 m__law_behind:mg "_law_behind"=some (.ref t.a__law_behind)
 b__law_behind:aA K t.d__law_behind ["_law_terms_here", "_law_goal", "_law_case", "_law_step"] []
 F__law_left:Fun K "_law_left" "_law_left" dE t.a__law_left t.d__law_left
 m__law_left:mg "_law_left"=some (.ref t.a__law_left)
 b__law_left:aA K t.d__law_left ["_law_terms_here", "_law_goal", "_law_paper", "_law_bare"] []
 F__law_apart:Fun K "_law_apart" "_law_apart" eB t.a__law_apart t.d__law_apart
 m__law_apart:mg "_law_apart"=some (.ref t.a__law_apart)
 b__law_apart:aA K t.d__law_apart ["_law_found", "_law_terms_here", "_law_goal", "_law_most"] []
 F__law_block:Fun K "_law_block" "_law_block" eA t.a__law_block t.d__law_block
 m__law_block:mg "_law_block"=some (.ref t.a__law_block)
 b__law_block:aA K t.d__law_block ["_law_cell_here", "_law_size", "_law_step"] []
 F__law_meet:Fun K "_law_meet" "_law_meet" fe t.a__law_meet t.d__law_meet
 m__law_meet:mg "_law_meet"=some (.ref t.a__law_meet)
 b__law_meet:aA K t.d__law_meet ["_law_one", "_law_other", "_law_step"] []
 F__law_axes:Fun K "_law_axes" "_law_axes" fg t.a__law_axes t.d__law_axes
 m__law_axes:mg "_law_axes"=some (.ref t.a__law_axes)
 b__law_axes:aA K t.d__law_axes ["_law_blocks", "_law_paces", "_law_steps"] []
 F__law_right:Fun K "_law_right" "_law_right" et t.a__law_right t.d__law_right
 m__law_right:mg "_law_right"=some (.ref t.a__law_right)
 b__law_right:aA K t.d__law_right ["_law_found", "_law_one", "_law_other", "_law_goal", "_law_meet_here"] []
 F_law:Fun K "law" "law" jS t.a_law t.d_law
 m_law:mg "law"=some (.ref t.a_law)
 b_law:aA K t.d_law ["_law_script"] []
 z_ValueError:mg "ValueError"=none
 z_abs:mg "abs"=none
 z_all:mg "all"=none
 z_bool:mg "bool"=none
 z_enumerate:mg "enumerate"=none
 z_int:mg "int"=none
 z_isinstance:mg "isinstance"=none
 z_len:mg "len"=none
 z_list:mg "list"=none
 z_max:mg "max"=none
 z_min:mg "min"=none
 z_range:mg "range"=none
 z_reversed:mg "reversed"=none
 z_sorted:mg "sorted"=none
 z_str:mg "str"=none
 z_sum:mg "sum"=none
 z_tuple:mg "tuple"=none
 z_zip:mg "zip"=none
local macro_rules | `(tactic| trivial) => `(tactic| first | exact Or.inl rfl | exact Or.inr rfl | exact Or.inr (Or.inl rfl) | exact Or.inr (Or.inr rfl) | assumption)
local macro_rules | `(tactic| simp! only [$xs,*]) => do
  let ys := xs.getElems.map λ x => (⟨x.raw⟩ : Lean.TSyntax `Lean.Parser.Tactic.simpLemma)
  let zs ← ("↓reduceIte ↓ma ↓Du ↓Dt ↓Ds ↓Dr ↓Dq ↓Dp ↓Dn ↓Dm ↓Dl ↓Dk ↓zq ↓zp ↓zo ↓zm ↓zk ↓zj ↓zh ↓Au ↓IU ↓IC ↓Kw ↓IM ↓Iz ↓rj ↓oF ↓rh ↓oE ↓Ge ↓Fv ↓GH ↓FE ↓IT ↓IB ↓Gk ↓ID ↓Gx ↓Fw ↓yC ↓CU ↓Cd ↓wt ↓wq ↓wo ↓wm ↓wj ↓Cf ↓I0 ↓IE ↓Ca ↓Fs ↓Ft ↓CT ↓Cb ↓Gj ↓Fy ↓GF ↓FD ↓Gb ↓Fu ↓IX ↓Gh ↓FN ↓Gi ↓IW ↓IG ↓FP ↓FK ↓FJ ↓rl ↓oH ↓m4 ↓oG ↓rk ↓wc ↓wb ↓wa ↓vY ↓vX ↓vU ↓vT ↓vW ↓vV ↓vS ↓vR ↓vZ ↓GB ↓Ja ↓IF ↓GA ↓FC ↓GG ↓vP ↓FZ ↓rg ↓CH ↓Ga ↓FF ↓CG ↓FY ↓Cm ↓yy ↓yz ↓GK ↓IZ ↓IH ↓aE ↓Fz ↓IP ↓C7 ↓wg ↓we ↓Gm ↓GJ ↓IL ↓A5 ↓Ff ↓Ce ↓CC ↓B8 ↓GL ↓rD ↓rC ↓gf ↓gd ↓gc ↓lr ↓da ↓yA ↓yB ↓Gq ↓rm ↓lq ↓lj ↓ll ↓lh ↓CN ↓FV ↓FW ↓FX ↓IA ↓vN ↓CI ↓B9 ↓IQ ↓IS ↓FH ↓FL ↓Kz ↓Cs ↓CK ↓yu ↓Gf ↓Gg ↓As ↓IV ↓II ↓Ct ↓CA ↓FI ↓Gz ↓C6 ↓FO ↓Cw ↓Cz ↓Cy ↓IK ↓GI ↓aU ↓bW ↓b7 ↓Ck ↓Cj ↓Ci ↓uS ↓CO ↓CP ↓Gp ↓FU ↓CB ↓CD ↓CF ↓Co ↓rq ↓yx ↓CL ↓Cq ↓CM ↓vQ ↓Cr ↓Gy ↓Cu ↓CQ ↓CS ↓vO ↓Gr ↓Gs ↓C8 ↓Gw ↓Cc ↓Gu ↓Gv ↓Cg ↓Fq ↓Fp ↓Fo ↓Fn ↓Fm ↓Fl ↓Fj ↓Fi ↓Fh ↓Fg ↓B7 ↓B6 ↓B5 ↓B4 ↓B3 ↓B2 ↓B0 ↓IJ ↓Ky ↓Kx ↓yw ↓Cn ↓CZ ↓Cv ↓Gd ↓FR ↓CJ ↓Cp ↓CV ↓CW ↓CY ↓yv ↓C9 ↓yD ↓FQ ↓Fx ↓FT ↓Gn ↓yt ↓GC ↓GD ↓FA ma cX aD gT xT xS yF xQ sE ah Bm Bp Bo Bs EF Bt Bq Br xO y9 KJ Jl Jk Jj Dw wY zw rV oK zx DF G8 DE Option.isSome_some Option.isSome_none Option.map_some List.length_cons List.length_nil List.length_map List.map_cons List.map_nil and_true true_and and_self implies_true reduceCtorEq decide_true decide_false Bool.not_true Bool.not_false if_true if_false decide_eq_true_eq Bool.false_eq_true Bool.not_eq_true' decide_eq_false_iff_not Bool.and_true Bool.true_and Bool.and_self Bool.and_eq_true Int.reduceToNat Int.reducePow Int.reduceMul Int.reduceAdd Int.reduceSub Int.reduceNeg Int.reduceLT Int.reduceLE Int.reduceEq Int.reduceNe Int.reduceDiv Int.reduceMod Nat.reduceAdd Nat.reduceLeDiff Nat.reduceLT Nat.reduceMul Nat.reducePow gt_iff_lt ge_iff_le ne_eq false_implies true_implies eq_self String.reduceEq Int.cast_ofNat_Int not_true_eq_false not_false_eq_true false_and and_false List.cons_append List.nil_append List.append_nil Jb".splitOn " ").toArray.mapM λ s => if s.startsWith "↓" then `(Lean.Parser.Tactic.simpLemma| ↓ $(Lean.mkIdent (s.replace "↓" "").toName):ident) else `(Lean.Parser.Tactic.simpLemma| $(Lean.mkIdent s.toName):ident)
  `(tactic| simp (config := { failIfUnchanged := false, maxDischargeDepth := 30, maxSteps := 10000000 }) only [$zs,*, $ys,*, *])
local macro_rules | `(%[$xs,*|$k:num]) => do
  let a := xs.getElems
  let s (i : Nat) : String := a[i]!.raw.getId.toString
  let I (n : String) : Lean.TSyntax `term := ⟨(Lean.mkIdent n.toName).raw⟩
  match k.getNat with
  | 46 => `($(a[0]!) (P := $(I "P")) (w := $(I "w")) (base := $(I "base")) $(I "T"))
  | 0 => `(@pvN _ $(a[0]!) _ _ (by rfl) (by trivial) (by decide) (by decide))
  | 1 => if a.size = 1 then `(@DO _ _ _ _ _ $(a[0]!) (@cc _) (by rfl)) else `(@DO _ _ _ _ _ $(a[0]!) $(a[1]!) (by rfl))
  | 2 => `(@dX _ _ _ _)
  | 7 => `(by trivial)
  | 8 => `(by omega)
  | 3 => `(@BO _ _ _ _ _ _ _ _ _ _ _ _ _ _ _ _ $(I ("G_" ++ s 0)) ($(I "hr.mono") (by decide)) (by rfl) $(I ("T.m_" ++ s 0)) $(I ("T.F_" ++ s 0 ++ ".kp")) $(I ("T.b_" ++ s 0)) .nil sX $(a[1]!) (by decide) (by rfl) (by rfl))
  | 4 => `(@gX _ _ $(a[0]!) _ _ _ _ ($(a[1]!)).nd rfl (Or.inl rfl) $(a[2]!) (by rfl) (by trivial))
  | 5 => `(@uJ _ _ $(a[0]!) _ ($(a[1]!)).nd rfl (Or.inl rfl) (by trivial))
  | 6 => `(@gK _ _ _ _ _ _ _ $(Lean.Syntax.mkStrLit (s 0)) _ $(a[1]!) (by rfl) $(I ("T.z_" ++ s 0)) (by decide +kernel) $(a[2]!) (by decide) (by decide) (by rfl) (by rfl))
  | 9 => `(@AU _ _ _ _ _ _ _ $(a)*)
  | 10 => `(@fw _ _ _ _ _ $(a)*)
  | 11 => `(@j0 _ _ _ $(a)*)
  | 12 => `(@dW _ _ _ _ _ _ _ _ $(a)*)
  | 13 => `(@ud _ _ _ _ $(a)*)
  | 14 => `(@xY _ _ _ _ _ _ _ _ $(a)*)
  | 15 => `(@vE _ _ _ _ _ $(a)*)
  | 16 => `(@AS _ _ _ _ _ _ _ _ $(a)*)
  | 17 => `(@BJ _ _ _ _ _ $(a)*)
  | 18 => `(@uJ _ _ $(a)*)
  | 19 => `(@BC _ _ _ $(a)*)
  | 20 => `(@ER _ _ _ _ $(a)*)
  | 21 => `(@Ii _ _ _ _ _ _ _ $(a)*)
  | 22 => `(@EY _ _ _ _ _ $(a)*)
  | 23 => `(@BK _ _ _ _ $(a)*)
  | 24 => `(@EX _ _ _ _ $(a)*)
  | 25 => `(@cC _ _ _ $(a)*)
  | 26 => `(@BM _ _ _ _ _ _ _ _ _ _ _ $(a)*)
  | 27 => `(@bH _ _ _ $(a)*)
  | 28 => `(@BN _ _ _ _ _ _ _ _ $(a)*)
  | 29 => `(@EL _ _ _ _ $(a)*)
  | 30 => `(@ET _ _ _ _ _ _ _ _ $(a)*)
  | 31 => `(@BQ _ _ _ _ _ _ _ $(a)*)
  | 32 => `(@BP _ _ $(a)*)
  | 33 => `(@E1 _ _ _ _ _ $(a)*)
  | 34 => `(@BD _ _ _ _ $(a)*)
  | 35 => `(@BL _ _ _ _ _ $(a)*)
  | 36 => `(@EM _ _ _ _ _ _ _ $(a)*)
  | 37 => `(@EU _ _ _ _ _ _ $(a)*)
  | 38 => `(@Ik _ _ _ _ _ _ _ _ _ _ _ _ $(a)*)
  | 39 => `(@EW _ _ _ _ _ _ _ _ _ $(a)*)
  | 40 => `(@ye _ _ _ _ _ _ _ _ _ _ $(a)*)
  | 41 => `(@vD _ _ _ _ _ _ $(a)*)
  | 42 => `(@BE _ _ _ _ _ _ _ _ _ $(a)*)
  | 43 => `(@E3 _ _ _ _ _ _ _ _ _ $(a)*)
  | 44 => `(@yg _ _ _ _ _ _ _ _ _ $(a)*)
  | 45 => `(@vB _ _ _ _ _ _ _ _ _ _ _ _ $(a)*)
  | _ => Lean.Macro.throwUnsupported
local macro_rules | `(∅) => `(by rfl)
local macro_rules | `(⋯) => `(by decide)
local macro_rules | `(nofun) => `(by decide +kernel)
local macro_rules | `(tactic| ac_rfl) => `(tactic| simp! only [and_true])
local macro_rules | `(tactic| exists $x:ident) => `(tactic| replace $x := λ (_ : Unit) => $x)
section
variable {P:Program}{w:World}{K:PySem.W.Frag}{mg:Str->Option Value}{base:Heap}{t:Adr}
def ua(K:W.Frag)(a:Addr)(ns:List Int):Sp:=λ vs H Q E=>∃ (k:Int) (m:Int),vs=[.ref a,.int k,.int m]/\(SqL K H a (ns.map V.int)/\ns.length<=63/\(0<=k/\k < 1000)/\0 < m/\∀ z:Int,0<=z->z < m->Q (.int z) H)
theorem dB(K:W.Frag)(a:Addr)(ns:List Int)(k:Int)(m:Int)(H:Hp)(Q:VK)(E:XK):ua K a ns [.ref a,.int k,.int m] H Q E=(SqL K H a (ns.map V.int)/\ns.length<=63/\(0<=k/\k < 1000)/\0 < m/\∀ z:Int,0<=z->z < m->Q (.int z) H):=sJ (f:=λ (k:Int) (m:Int)=>[.ref a,.int k,.int m]) (λ _ _ _ _ h=>by cases h;exact⟨rfl,rfl⟩) k m
theorem yU(K:W.Frag)(a:Addr)(ns:List Int){vs:List V}{H:Hp}{Q:VK}{E:XK}(h:ua K a ns vs H Q E):vs.length=3:=sL h λ _ _=>rfl
theorem mX(T:Tx K mg t)(a:Addr)(ns:List Int):bC P w K mg base CX0 1 t.a__law_draw t.d__law_draw ["_law_script", "_law_k", "_law_many"] (ua K a ns):=by
 refine T.F__law_draw.ok dH (λ vs H Q E h=>yU _ _ _ h) (λ c A o s H vs Q E hr h=>?_)
 ·obtain⟨k,m,rfl,hS,hl,⟨hk0,hk1⟩,hm,kk⟩:=h;have fin:∀ z:Int,Q (.int (z % m)) H:=λ z=>kk _ (LP _ %[0|8]) (Mg _ hm)
  refine⟨_,(fw (AS (nV Eg (pv 1) (gK (id := "len") cQ ∅ T.z_len nofun (DO (pv 0) cc)) (ai _))
   (j0 (ud (dW gY (AU oi (pv 0) (pv 1) (λ _ _=>rfl)) (pv 2))))
   ar)
  (fw (gX (i:=3) dH.nd rfl (Or.inl rfl) (dW o7 (dW gm (dW gm (pv 1) (pv 1)) dX) dX))
  (fw (AS (nV Eh (gK (id := "len") cQ ∅ T.z_len nofun (DO (pv 0) cc)) dX (ai _))
   (fw (gX (i:=4) dH.nd rfl (Or.inl rfl) (dW gY (AU oi (pv 0) (dW gY (pv 1) (gK (id := "len") cQ ∅ T.z_len nofun (DO (pv 0) cc))) (λ _ _=>rfl)) dX))
   (j0 (gX (i:=3) dH.nd rfl (Or.inl rfl) (dW o7 (dW gm (pv 4) (dW o7 dX (dW gm (dW gm dX (pv 1)) (pv 1)))) (dW gm (pv 1) dX)))))
   ar)
  (j0 (ud (dW gY (dW gY (dW gm (dW gY (pv 3) dX) dX) dX) (pv 2))))))),?_⟩
  refine⟨_,rfl,_,rfl,a,_,rfl,.inl hS,_,_,rfl,rfl,_,rfl,?_⟩;refine J0 (λ h=>?_) (λ h=>?_)
  ·have h1:k < (ns.length:Int):=by simpa using h
   obtain⟨z,hz,_⟩:=qm ns k hk0 h1;exact⟨_,rfl,_,rfl,a,_,k,_,rfl,rfl,hS,hz,_,rfl,_,_,rfl,rfl,hm,fin _⟩
  ·refine⟨_,rfl,_,rfl,_,_,rfl,rfl,.inl ⟨by omega,by omega⟩,_,_,rfl,rfl,.inr ⟨by decide,by decide⟩,_,_,rfl,rfl,?_⟩;refine⟨_,rfl,a,_,rfl,.inl hS,_,_,rfl,rfl,_,rfl,?_⟩;refine J0 (λ h2=>?_) (λ h2=>?_)
   ·have h3:0 < (ns.length:Int):=by simpa using h2
    have h4:(0:Int) < ((ns.map V.int).length:Int):=by simpa using h3
    obtain⟨z,hz,_⟩:=qm ns (k % ((ns.map V.int).length:Int)) (LP _ %[0|8]) (by have:=Mg k h4;simpa using this);refine⟨_,rfl,_,rfl,_,rfl,a,_,rfl,.inl hS,_,_,rfl,rfl,h4,a,_,_,_,rfl,rfl,hS,hz,_,_,rfl,rfl,(by first|decide|(show (0:Int) < _;decide)),?_⟩;refine⟨_,rfl,_,rfl,_,_,rfl,rfl,.inl ⟨by decide,by decide⟩,_,rfl,_,_,rfl,rfl,.inr ⟨by omega,by omega⟩,_,_,rfl,rfl,_,_,rfl,rfl,?_,?_⟩
    ·refine .inl ⟨?_,?_⟩
     ·have:=LP z (show (999999937:Int) ≠ 0 by decide);omega
     ·have:=Mg z (show (0:Int) < 999999937 by decide);omega
    refine⟨_,rfl,_,_,rfl,rfl,.inr ⟨by decide,by decide⟩,_,_,rfl,rfl,?_⟩;exact⟨_,rfl,_,_,rfl,rfl,(by first|decide|(show (0:Int) < _;decide)),_,_,rfl,rfl,.inr ⟨by decide,by decide⟩,_,_,rfl,rfl,(by first|decide|(show (0:Int) < _;decide)),_,rfl,_,_,rfl,rfl,hm,fin _⟩
   ·exact⟨_,rfl,_,_,rfl,rfl,(by first|decide|(show (0:Int) < _;decide)),_,_,rfl,rfl,.inr ⟨by decide,by decide⟩,_,_,rfl,rfl,(by first|decide|(show (0:Int) < _;decide)),_,rfl,_,_,rfl,rfl,hm,fin _⟩
def jX  : Sp:=λ vs H Q E=>∃ (x:V),vs=[x]/\(aO (isW H x) (kE4 H Q))
theorem bR  (x:V) (H:Hp) (Q:VK) (E:XK):jX  [x] H Q E=(aO (isW H x) (kE4 H Q)):=xt (f:=λ (x:V)=>[x]) (λ _ _ h=>by cases h;exact rfl) x
theorem ml  {vs:List V}{H:Hp}{Q:VK}{E:XK}(h:jX  vs H Q E):vs.length=1:=sO h λ _=>rfl
theorem dJ(T:Tx K mg t):bC P w K mg base CX0 1 t.a__law_whole t.d__law_whole ["_law_found"] jX:=by
 refine T.F__law_whole.ok nc (λ vs H Q E h=>ml h) (λ c A o s H vs Q E hr h=>?_)
 ·obtain⟨x,rfl,h⟩:=h;obtain⟨b,hb,k⟩:=au h;clear h;rw [A5] at k;refine⟨_,%[%[%[%[isinstance,aK,%[%[0|0],%[%[(.ty "int"),(.type "int"),_,∅,T.z_int,nofun,rfl,⋯,⋯|32]|1]|1]|6],%[(@uK _ _ _ _ %[isinstance,aK,%[%[0|0],%[%[(.ty "bool"),(.type "bool"),_,∅,T.z_bool,nofun,rfl,⋯,⋯|32]|1]|1]|6])|33]|31]|13]|11],?_⟩;rw [show start ["_law_found"] [x]=[some (x)] from rfl]
  cases x with
  | int i=>cases hb;ac_rfl
  | bl i=>cases hb;ac_rfl
  | non=>cases hb;ac_rfl
  | str i=>cases hb;ac_rfl
  | ref p=>
   obtain⟨rfl,o,ho,ht⟩:=uW hb
   rcases ht with ht|ht|ht<;>ac_rfl
  | _=>cases hb
theorem cx(T:Tx K mg t):bC P w K mg base CX0 1 t.a_is_whole t.d_is_whole ["thing"] jX:=by
 refine T.F_is_whole.ok sy (λ vs H Q E h=>ml h) (λ c A o s H vs Q E hr h=>?_)
 ·obtain⟨x,rfl,h⟩:=h;obtain⟨b,hb,k⟩:=au h;clear h;rw [A5] at k;refine⟨_,%[%[%[%[isinstance,aK,%[%[0|0],%[%[(.ty "int"),(.type "int"),_,∅,T.z_int,nofun,rfl,⋯,⋯|32]|1]|1]|6],%[(@uK _ _ _ _ %[isinstance,aK,%[%[0|0],%[%[(.ty "bool"),(.type "bool"),_,∅,T.z_bool,nofun,rfl,⋯,⋯|32]|1]|1]|6])|33]|31]|13]|11],?_⟩;rw [show start ["thing"] [x]=[some (x)] from rfl]
  cases x with
  | int i=>cases hb;ac_rfl
  | bl i=>cases hb;ac_rfl
  | non=>cases hb;ac_rfl
  | str i=>cases hb;ac_rfl
  | ref p=>
   obtain⟨rfl,o,ho,ht⟩:=uW hb
   rcases ht with ht|ht|ht<;>ac_rfl
  | _=>cases hb
def kh  : Sp:=λ vs H Q E=>∃ (i:Int) (lo:Int) (hi:Int),vs=[.int i,.int lo,.int hi]/\(Q (.bl (decide (lo<=i) && decide (i<=hi))) H)
theorem jy  (i:Int) (lo:Int) (hi:Int) (H:Hp) (Q:VK) (E:XK):kh  [.int i,.int lo,.int hi] H Q E=(Q (.bl (decide (lo<=i) && decide (i<=hi))) H):=ni (f:=λ (i:Int) (lo:Int) (hi:Int)=>[.int i,.int lo,.int hi]) (λ _ _ _ _ _ _ h=>by cases h;exact⟨rfl,rfl,rfl⟩) i lo hi
theorem rE  {vs:List V}{H:Hp}{Q:VK}{E:XK}(h:kh  vs H Q E):vs.length=3:=nj h λ _ _ _=>rfl
theorem gu(T:Tx K mg t):bC P w K mg base CX0 2 t.a_is_within t.d_is_within ["thing", "low", "high"] kh:=by
 have G_is_whole:=%[cx|46];refine T.F_is_within.ok oS (λ vs H Q E h=>rE h) (λ c A o s H vs Q E hr h=>?_)
 ·obtain⟨i,lo,hi,rfl,k⟩:=h;refine⟨_,%[%[%[%[is_whole,%[%[0|0]|1]|3],%[(@l5 _ _ _ _ _ _ _ _ _ _ _ _ i7 i7 %[1|0] %[0|0] %[2|0] ∅)|33]|31]|13]|11],?_⟩;rw [show start ["thing", "low", "high"] [.int i,.int lo,.int hi]=[some (.int i),some (.int lo),some (.int hi)] from rfl]
  by_cases h0:lo<=i
  ·rw [Ll h0,Bool.true_and] at k;simp! only [↓bR]
  ·rw [Lj h0,Bool.false_and] at k;simp! only [↓bR]
def tN  : Sp:=λ vs H Q E=>∃ (i:Int),vs=[.int i]/\(Q (.bl (decide (1<=i) && decide (i<=1000000000))) H)
theorem zJ  (i:Int) (H:Hp) (Q:VK) (E:XK):tN  [.int i] H Q E=(Q (.bl (decide (1<=i) && decide (i<=1000000000))) H):=xt (f:=λ (i:Int)=>[.int i]) (λ _ _ h=>by cases h;exact rfl) i
theorem yH  {vs:List V}{H:Hp}{Q:VK}{E:XK}(h:tN  vs H Q E):vs.length=1:=sO h λ _=>rfl
theorem qU(T:Tx K mg t):bC P w K mg base CX0 3 t.a_is_size t.d_is_size ["thing"] tN:=by
 have G_is_within:=%[gu|46];refine T.F_is_size.ok xo (λ vs H Q E h=>yH h) (λ c A o s H vs Q E hr h=>?_)
 ·obtain⟨i,rfl,k⟩:=h;refine⟨_,%[%[%[is_within,%[%[0|0],%[%[0|2],%[(@j6 _ _ (.int 1000000000) _ _ ∅ T.m_MOST_SIZE.choose_spec ⟨_,rfl⟩ ⋯)|1]|1]|1]|3]|13]|11],?_⟩;rw [show start ["thing"] [.int i]=[some (.int i)] from rfl];simp! only [↓jy]
abbrev qE  (p:Addr) (H:Hp) (Q:VK) (E:XK):Prop:=∃ a:Int × Int,H p=some (.tup [.int a.1,.int a.2])/\1<=a.1/\a.1<=1000000000/\Q (.bl true) H
def ub  : Sp:=λ vs H Q E=>∃ (p:Addr),vs=[.ref p]/\(qE  p H Q E)
theorem zR  (p:Addr) (H:Hp) (Q:VK) (E:XK):ub  [.ref p] H Q E=(qE  p H Q E):=xt (f:=λ (p:Addr)=>[.ref p]) (λ _ _ h=>by cases h;exact rfl) p
theorem yV  {vs:List V}{H:Hp}{Q:VK}{E:XK}(h:ub  vs H Q E):vs.length=1:=sO h λ _=>rfl
theorem qV(T:Tx K mg t):bC P w K mg base CX0 4 t.a_is_axis t.d_is_axis ["thing"] ub:=by
 have G_is_size:=%[qU|46];have G_is_whole:=%[cx|46];refine T.F_is_axis.ok xp (λ vs H Q E h=>yV h) (λ c A o s H vs Q E hr h=>?_)
 ·obtain⟨p,rfl,a,hp,h1,h2,k⟩:=h;refine⟨_,%[%[%[%[isinstance,aK,%[%[0|0],%[%[(.ty "tuple"),(.type "tuple"),_,∅,T.z_tuple,nofun,rfl,⋯,⋯|32]|1]|1]|6],%[%[(cg hr.units),%[len,aw,%[%[0|0]|1]|6],%[0|2],(ai _)|28],%[%[is_size,%[%[ay,%[0|0],%[0|2],(λ _ _=>rfl)|9]|1]|3],%[%[is_whole,%[%[ay,%[0|0],%[0|2],(λ _ _=>rfl)|9]|1]|3]|33]|31]|31]|31]|13]|11],?_⟩;rw [show start ["thing"] [.ref p]=[some (.ref p)] from rfl];simp! only [↓zJ,↓bR]
abbrev qu  (p:Addr) (H:Hp) (Q:VK) (E:XK):Prop:=∃ a:Int × Int,H p=some (.tup [.int a.1,.int a.2])/\∀ (r:Addr) (H':Hp),H r=none->Ext H H'->H' r=some (.tup [.int (aj a).1,.int (aj a).2])->Q (.ref r) H'
def tR  : Sp:=λ vs H Q E=>∃ (p:Addr),vs=[.ref p]/\(qu  p H Q E)
theorem zM  (p:Addr) (H:Hp) (Q:VK) (E:XK):tR  [.ref p] H Q E=(qu  p H Q E):=xt (f:=λ (p:Addr)=>[.ref p]) (λ _ _ h=>by cases h;exact rfl) p
theorem yL  {vs:List V}{H:Hp}{Q:VK}{E:XK}(h:tR  vs H Q E):vs.length=1:=sO h λ _=>rfl
theorem mT(T:Tx K mg t):bC P w K mg base CX0 1 t.a_kept_axis t.d_kept_axis ["axis"] tR:=by
 refine T.F_kept_axis.ok oR (λ vs H Q E h=>yL h) (λ c A o s H vs Q E hr h=>?_)
 ·obtain⟨p,rfl,a,hp,k⟩:=h;refine⟨_,%[%[%[%[%[ay,%[0|0],%[0|2],(λ _ _=>rfl)|9],%[(@kH _ _ _ _ _ _ _ _ %[dR,%[ay,%[0|0],%[0|2],(λ _ _=>rfl)|9],%[0|2],(ai _)|14] %[ay,%[0|0],%[0|2],(λ _ _=>rfl)|9] %[0|2])|1]|1]|17]|13]|11],?_⟩;rw [show start ["axis"] [.ref p]=[some (.ref p)] from rfl];have e1:(aj a).1=a.1:=rfl
  by_cases h1:1 < a.1
  ·have e2:(aj a).2=a.2:=K7 h1;rw [e1,e2] at k;ac_rfl;exact λ r H' h e h'=>k r H' h e h'
  ·have e2:(aj a).2=0:=K5 h1;rw [e1,e2] at k;ac_rfl;exact λ r H' h e h'=>k r H' h e h'
abbrev qF  (p:Addr) (H:Hp) (Q:VK) (E:XK):Prop:=∃ axs:List (Int × Int),cJ H p (axL axs)/\oW axs/\∀ H',Ext H H'->Q (.bl true) H'
def uc  : Sp:=λ vs H Q E=>∃ (p:Addr),vs=[.ref p]/\(qF  p H Q E)
theorem zS  (p:Addr) (H:Hp) (Q:VK) (E:XK):uc  [.ref p] H Q E=(qF  p H Q E):=xt (f:=λ (p:Addr)=>[.ref p]) (λ _ _ h=>by cases h;exact rfl) p
theorem yW  {vs:List V}{H:Hp}{Q:VK}{E:XK}(h:uc  vs H Q E):vs.length=1:=sO h λ _=>rfl
theorem oy(T:Tx K mg t):bC P w K mg base CX0 5 t.a_are_axes t.d_are_axes ["thing"] uc:=by
 have G_is_axis:=%[qV|46];refine T.F_are_axes.ok sC (λ vs H Q E h=>yW h) (λ c A o s H vs Q E hr h=>?_)
 ·obtain⟨p,rfl,axs,⟨ys,hp,al⟩,ha,k⟩:=h;refine⟨_,%[%[%[%[isinstance,aK,%[%[0|0],%[%[(.ty "list"),(.type "list"),_,∅,T.z_list,nofun,rfl,⋯,⋯|32]|1]|1]|6],%[%[i7,%[len,aw,%[%[0|0]|1]|6],(@j6 _ _ (.int 8) _ _ ∅ T.m_MOST_AXES.choose_spec ⟨_,rfl⟩ ⋯),(ai _)|28],%[%[all,(iy rfl),%[%[(["axis", "thing"]),(1),(aP (aa eM) ["thing"] rfl rfl nofun),rfl,%[%[0|0]|24],(λ C s₀ H₀ ex pn=>%[(0),_,(show List.Nodup (["axis", "thing"]:List Str) from by decide +kernel),rfl,(Or.inl rfl),%[0|7]|18]),(λ C s₀ H₀ ex pn=>(@aY _)),(λ C s₀ H₀ ex pn=>%[is_axis,%[%[0|0]|1]|3]),(by intros;rfl)|26]|1]|6]|33]|31]|31]|13]|11],?_⟩;rw [show start ["thing"] [.ref p]=[some (.ref p)] from rfl];have hl:ys.length=axs.length:=by rw [al.1];unfold axL;rw [length_map]
  have hl8:(axs.length:Int)<=8:=by have:=ha.1;omega
  ac_rfl;refine bM ys (λ _=>true) (λ _=>.bl true) (λ z x H'=>x=z/\H' p=some (.lst ys)) (oX hp).1 (oX hp).2 (az %[0|8]) ?_ ?_
  ·intro D z x H' N1 N0 hz hD e ⟨hx,_⟩ k1 _;subst hx;obtain⟨i,hi,rfl⟩:=List.getElem_of_mem hz;have hi':i < axs.length:=by rw [←hl];exact hi
   obtain⟨q,hq1,hq2⟩:=al.2 i [axs[i].1,axs[i].2] ys[i] (by unfold axL;rw [getElem?_map,getElem?_eq_getElem hi'];rfl) (getElem?_eq_getElem hi);have hb:=ha.2 _ (getElem_mem hi');have k1':=k1 rfl H' (Ext.refl _);have hq3:=e.at hq2;rw [hq1];clear k1 k hp al;simp! only [↓bW,↓aU];rw [zR];exact⟨axs[i],hq3,hb.1,hb.2,k1'⟩
  ·intro D H' hD e hD';have hD2:H' D=some (.lst ((ys.map λ _=>true).map V.bl)):=by rw [hD',lE,Mi];rfl
   have e2:((ys.map λ _=>true).all id)=true:=by rw [List.all_map];simp
   have k2:=k H' e;clear k hD';ac_rfl
theorem Ku(x:Int):min 0 x=if x < 0 then x else 0:=by split<;>omega
theorem Kv(x:Int):max 0 x=if 0 < x then x else 0:=by split<;>omega
structure bj(C:Addr)(H:Hp)(v:Addr)(room first:Int)(axs:List (Int × Int)):Prop where
 ob:∃ dx l,H v=some (.ins C dx (dQ room first l))/\cJ H l (axL axs)
theorem bj.ext{C:Addr}{H H':Hp}{v:Addr}{room first:Int}{axs:List (Int × Int)}(h:bj C H v room first axs)(e:Ext H H'):bj C H' v room first axs:=by
 obtain⟨dx,l,h1,h2⟩:=h.ob;exact⟨⟨dx,l,e.at h1,h2.ext e⟩⟩
theorem AW{m:Str}(h:m∈([("sizes":Str), "paces", "count", "cell", "cell_at", "cells", "least", "greatest"]:List Str)):¬ m = "axes" /\ ¬ m = "first" /\ ¬ m = "room":=by
 revert m
 decide +kernel
theorem vn(room first:Int)(l:Addr){m:Str}(h:m∈([("sizes":Str), "paces", "count", "cell", "cell_at", "cells", "least", "greatest"]:List Str)):(dQ room first l).lookup m=none:=xM room first l (AW h).1 (AW h).2.1 (AW h).2.2
abbrev mJ(C:Addr)(v:Addr)(H:Hp)(Q:VK)(E:XK):Prop:=∃ (room first:Int) (axs:List (Int × Int)),bj C H v room first axs/\oW axs/\∀ H',Ext H H'->Q (.int (first+bq axs)) H'
def jY(C:Addr):Sp:=λ vs H Q E=>∃ (v:Addr),vs=[.ref v]/\(mJ C v H Q E)
theorem xg(C:Addr)(v:Addr)(H:Hp)(Q:VK)(E:XK):jY C [.ref v] H Q E=(mJ C v H Q E):=xt (f:=λ (v:Addr)=>[.ref v]) (λ _ _ h=>by cases h;exact rfl) v
theorem wC(C:Addr){vs:List V}{H:Hp}{Q:VK}{E:XK}(h:jY C vs H Q E):vs.length=1:=sO h λ _=>rfl
theorem k8(T:Tx K mg t):bC P w K mg base CX0 1 t.a_View_least t.d_View_least ["self"] (jY t.a_View):=by
 refine T.F_View_least.ok nh (λ vs H Q E h=>wC _ h) (λ c A o s H vs Q E hr h=>?_)
 ·obtain⟨v,rfl,room,first,axs,vo,hax,k⟩:=h;obtain⟨dx,l,hv,ys,hl,al⟩:=vo.ob;have c1:=T.cl_View;have c2:=T.na_View_first;have c3:=T.na_View_axes
  have f1:=dC room first l
  have f2:=dj room first l
  refine⟨_,%[%[%[aH,%[%[0|0],rfl|35],%[sum,(cv rfl),%[%[(["size", "pace", "self"]),(2),(aP (aa cO) ["self"] rfl rfl nofun),rfl,%[%[%[0|0],rfl|35]|24],(λ C s₀ H₀ ex pn=>(%[(2),rfl,%[%[(0),_,(show List.Nodup (["size", "pace", "self"]:List Str) from by decide +kernel),rfl,(Or.inl rfl),%[0|7]|18],%[%[(1),_,(show List.Nodup (["size", "pace", "self"]:List Str) from by decide +kernel),rfl,(Or.inl rfl),%[0|7]|18],(@aB _),∅|15],∅|15],∅,∅|22].mono λ _ _ _ _ h=>aZ h)),(λ C s₀ H₀ ex pn=>(@aY _)),(λ C s₀ H₀ ex pn=>%[min,(ef rfl),%[%[0|2],%[%[bh,%[aF,%[0|0],%[0|2]|12],%[1|0]|12]|1]|1]|6]),(by intros;rfl)|26]|1]|6]|12]|13]|11],?_⟩;rw [show start ["self"] [.ref v]=[some (.ref v)] from rfl];ac_rfl;have wk:=jQ (K:=K) (R:=axP) (λ _ _ _ _ h e=>h.ext e) hl (lP al);refine bM axs (λ _=>true) (λ a=>.int (min 0 ((a.1 - 1) * a.2))) axP wk.1 wk.2 (az (by have:=hax.1;omega)) ?_ ?_
  ·intro D a x H' N1 N0 ha hD e ⟨q,hx,hq⟩ k1 _;subst hx;have hb:=hax.2 a ha;have k1':=k1 rfl H' (Ext.refl _);have hcm:gS (a.1 - 1) a.2:=.inl ⟨by omega,by omega⟩;rw [Ku] at k1';clear k1 k;simp! only [↓b7,↓aU]
  ·intro D H' hD e hD';have hD2:H' D=some (.lst ((axs.map λ a=>min 0 ((a.1 - 1) * a.2)).map V.int)):=by rw [hD',lE,Mi];rfl
   have k2:Q (.int (first+(axs.map λ a=>min 0 ((a.1 - 1) * a.2)).sum)) H':=k H' e;clear k hD';ac_rfl
abbrev gx(C:Addr)(v:Addr)(H:Hp)(Q:VK)(E:XK):Prop:=∃ (room first:Int) (axs:List (Int × Int)),bj C H v room first axs/\oW axs/\∀ H',Ext H H'->Q (.int (first+br axs)) H'
def fQ(C:Addr):Sp:=λ vs H Q E=>∃ (v:Addr),vs=[.ref v]/\(gx C v H Q E)
theorem m8(C:Addr)(v:Addr)(H:Hp)(Q:VK)(E:XK):fQ C [.ref v] H Q E=(gx C v H Q E):=xt (f:=λ (v:Addr)=>[.ref v]) (λ _ _ h=>by cases h;exact rfl) v
theorem m5(C:Addr){vs:List V}{H:Hp}{Q:VK}{E:XK}(h:fQ C vs H Q E):vs.length=1:=sO h λ _=>rfl
theorem gC(T:Tx K mg t):bC P w K mg base CX0 1 t.a_View_greatest t.d_View_greatest ["self"] (fQ t.a_View):=by
 refine T.F_View_greatest.ok iV (λ vs H Q E h=>m5 _ h) (λ c A o s H vs Q E hr h=>?_)
 ·obtain⟨v,rfl,room,first,axs,vo,hax,k⟩:=h;obtain⟨dx,l,hv,ys,hl,al⟩:=vo.ob;have c1:=T.cl_View;have c2:=T.na_View_first;have c3:=T.na_View_axes
  have f1:=dC room first l
  have f2:=dj room first l
  refine⟨_,%[%[%[aH,%[%[0|0],rfl|35],%[sum,(cv rfl),%[%[(["size", "pace", "self"]),(2),(aP (aa bS) ["self"] rfl rfl nofun),rfl,%[%[%[0|0],rfl|35]|24],(λ C s₀ H₀ ex pn=>(%[(2),rfl,%[%[(0),_,(show List.Nodup (["size", "pace", "self"]:List Str) from by decide +kernel),rfl,(Or.inl rfl),%[0|7]|18],%[%[(1),_,(show List.Nodup (["size", "pace", "self"]:List Str) from by decide +kernel),rfl,(Or.inl rfl),%[0|7]|18],(@aB _),∅|15],∅|15],∅,∅|22].mono λ _ _ _ _ h=>aZ h)),(λ C s₀ H₀ ex pn=>(@aY _)),(λ C s₀ H₀ ex pn=>%[max,(fE rfl),%[%[0|2],%[%[bh,%[aF,%[0|0],%[0|2]|12],%[1|0]|12]|1]|1]|6]),(by intros;rfl)|26]|1]|6]|12]|13]|11],?_⟩;rw [show start ["self"] [.ref v]=[some (.ref v)] from rfl];ac_rfl;have wk:=jQ (K:=K) (R:=axP) (λ _ _ _ _ h e=>h.ext e) hl (lP al);refine bM axs (λ _=>true) (λ a=>.int (max 0 ((a.1 - 1) * a.2))) axP wk.1 wk.2 (az (by have:=hax.1;omega)) ?_ ?_
  ·intro D a x H' N1 N0 ha hD e ⟨q,hx,hq⟩ k1 _;subst hx;have hb:=hax.2 a ha;have k1':=k1 rfl H' (Ext.refl _);have hcm:gS (a.1 - 1) a.2:=.inl ⟨by omega,by omega⟩;rw [Kv] at k1';clear k1 k;simp! only [↓b7,↓aU]
  ·intro D H' hD e hD';have hD2:H' D=some (.lst ((axs.map λ a=>max 0 ((a.1 - 1) * a.2)).map V.int)):=by rw [hD',lE,Mi];rfl
   have k2:Q (.int (first+(axs.map λ a=>max 0 ((a.1 - 1) * a.2)).sum)) H':=k H' e;clear k hD';ac_rfl
def JJ(H:Hp)(Q:VK)(f:Int × Int->Int)(axs:List (Int × Int)):Prop:=∀ (r:Addr) (H':Hp),H r=none->Ext H H'->H' r=some (.lst ((axs.map f).map V.int))->Q (.ref r) H'
abbrev sG(C:Addr)(v:Addr)(H:Hp)(Q:VK)(E:XK):Prop:=∃ (room first:Int) (axs:List (Int × Int)),bj C H v room first axs/\axs.length<=8/\JJ H Q (λ a=>a.1) axs
def Hm(C:Addr):Sp:=λ vs H Q E=>∃ (v:Addr),vs=[.ref v]/\(sG C v H Q E)
abbrev sH(C:Addr)(v:Addr)(H:Hp)(Q:VK)(E:XK):Prop:=∃ (room first:Int) (axs:List (Int × Int)),bj C H v room first axs/\axs.length<=8/\JJ H Q (λ a=>a.2) axs
def Hn(C:Addr):Sp:=λ vs H Q E=>∃ (v:Addr),vs=[.ref v]/\(sH C v H Q E)
def nF(C:Addr):Sp:=λ vs H Q E=>∃ (x:Addr) (room:Int) (first:Int) (l:Addr),vs=[.ref x,.int room,.int first,.ref l]/\(∃ (dx:Addr) (axs:List (Int × Int)),H x=some (.ins C dx [])/\cJ H l (axL axs)/\uw room first axs/\∀ (H':Hp) (D:Addr),(∀ H0,Ext H0 H->H0 x=none->Ext H0 H')->H D=none->H' x=some (.ins C dx (dQ room first D))->cJ H' D (axL (axs.map aj))->Q .non H')
theorem mx(C:Addr)(x:Addr)(room:Int)(first:Int)(l:Addr)(H:Hp)(Q:VK)(E:XK):nF C [.ref x,.int room,.int first,.ref l] H Q E=(∃ (dx:Addr) (axs:List (Int × Int)),H x=some (.ins C dx [])/\cJ H l (axL axs)/\uw room first axs/\∀ (H':Hp) (D:Addr),(∀ H0,Ext H0 H->H0 x=none->Ext H0 H')->H D=none->H' x=some (.ins C dx (dQ room first D))->cJ H' D (axL (axs.map aj))->Q .non H'):=zT (f:=λ (x:Addr) (room:Int) (first:Int) (l:Addr)=>[.ref x,.int room,.int first,.ref l]) (λ _ _ _ _ _ _ _ _ h=>by cases h;exact⟨rfl,rfl,rfl,rfl⟩) x room first l
theorem wz(C:Addr){vs:List V}{H:Hp}{Q:VK}{E:XK}(h:nF C vs H Q E):vs.length=4:=zU h λ _ _ _ _=>rfl
theorem gD(T:Tx K mg t):bC P w K mg base CX0 6 t.a_View___init__ t.d_View___init__ ["self", "room", "first", "axes"] (nF t.a_View):=by
 have G_is_within:=%[gu|46];have G_is_whole:=%[cx|46];have G_are_axes:=%[oy|46];have G_kept_axis:=%[mT|46];have G_View_least:=%[k8|46];have G_View_greatest:=%[gC|46];refine T.F_View___init__.ok iW (λ vs H Q E h=>wz _ h) (λ c A o s H vs Q E hr h=>?_)
 ·obtain⟨x,room,first,l,rfl,dx,axs,hx,tl,vok,k⟩:=h;have c1:=T.cl_View;have c2:=T.na_View_first;have c3:=T.na_View_axes;have c4:=T.na_View_room;refine⟨_,%[%[(PW.pt %[%[%[%[is_within,%[%[1|0],%[%[0|2],%[(@j6 _ _ (.int 1000000000000000000) _ _ ∅ T.m_MOST_ROOM.choose_spec ⟨_,rfl⟩ ⋯)|1]|1]|1]|3],(by intros;rfl)|19]|20],%[%[%[%[is_whole,%[%[2|0]|1]|3],(by intros;rfl)|19]|20],%[%[%[%[are_axes,%[%[3|0]|1]|3],(by intros;rfl)|19]|20]|29]|21]|21]),%[(@gI _ _)|11],(@ar _)|16],%[(@kG _ _ _ _ _ _ _ _ %[0|0] %[1|0] rfl),%[(@kG _ _ _ _ _ _ _ _ %[0|0] %[2|0] rfl),%[(@kG _ _ _ _ _ _ _ _ %[0|0] %[(["axis", "self", "room", "first", "axes"]),(1),(aP (aa bT) ["self", "room", "first", "axes"] rfl rfl nofun),rfl,%[%[3|0]|24],(λ C s₀ H₀ ex pn=>%[(0),_,(show List.Nodup (["axis", "self", "room", "first", "axes"]:List Str) from by decide +kernel),rfl,(Or.inl rfl),%[0|7]|18]),(λ C s₀ H₀ ex pn=>(@aY _)),(λ C s₀ H₀ ex pn=>%[kept_axis,%[%[0|0]|1]|3]),(by intros;rfl)|26] rfl),%[%[(PW.pt %[%[cD,(@lZ _ _ _ _ _ _ _ _ _ _ _ _ _ _ _ _ _ %[0|0] T.cl_View T.mt_View_least G_View_least (hr.mono ⋯) T.b_View_least .nil sX ∅),%[0|2],(ai _)|14],%[%[AV,(@lZ _ _ _ _ _ _ _ _ _ _ _ _ _ _ _ _ _ %[0|0] T.cl_View T.mt_View_greatest G_View_greatest (hr.mono ⋯) T.b_View_greatest .nil sX ∅),%[1|0],(ai _)|14]|29]|21]),%[(@gI _ _)|11],(@ar _)|16]|11]|10]|10]|10]|10],?_⟩;rw [show start ["self", "room", "first", "axes"] [.ref x,.int room,.int first,.ref l]=[some (.ref x),some (.int room),some (.int first),some (.ref l)] from rfl];have r1:=vok.r1;have r2:=vok.r2;simp! only [↓jy,↓bR];rw [zS];refine⟨axs,tl,vok.ax,λ H1 e1=>?_⟩;have hx1:=e1.at hx;have tl1:=tl.ext e1;clear hx tl;ac_rfl;refine⟨(show (1:Nat) < 1000 by decide),?_⟩;obtain⟨ys,hl1,al1⟩:=tl1;have hlx:l ≠ x:=λ z=>by rw [z,hx1] at hl1;cases hl1
  have hx2:(upd H1 x (HO.ins t.a_View dx (eE "first" (V.int first) (eE "room" (V.int room) [])))) x=some (HO.ins t.a_View dx (eE "first" (V.int first) (eE "room" (V.int room) []))):=ah
  have hl2:(upd H1 x (HO.ins t.a_View dx (eE "first" (V.int first) (eE "room" (V.int room) [])))) l=some (.lst ys):=by rw [ae hlx];exact hl1
  have al2:Al (λ a y=>axP a y (upd H1 x (HO.ins t.a_View dx (eE "first" (V.int first) (eE "room" (V.int room) []))))) axs ys:=(lP al1).imp λ a y ⟨q,hy,hq⟩=>⟨q,hy,by rw [ae (λ z=>by rw [z,hx1] at hq;cases hq)];exact hq⟩;have b2:∀ H0,Ext H0 H->H0 x=none->Ext H0 (upd H1 x (HO.ins t.a_View dx (eE "first" (V.int first) (eE "room" (V.int room) [])))):=λ H0 q0 q1=>(q0.trans e1).put q1
  have b3:∀ b,b ≠ x->(upd H1 x (HO.ins t.a_View dx (eE "first" (V.int first) (eE "room" (V.int room) [])))) b=none->H b=none:=λ b hb q=>by rw [ae hb] at q;exact e1.free q
  generalize upd H1 x (HO.ins t.a_View dx (eE "first" (V.int first) (eE "room" (V.int room) [])))=H2 at hx2 hl2 al2 b2 b3;clear hl1 al1 hx1;ac_rfl;have wk:=jQ (K:=K) (R:=axP) (λ _ _ _ _ h e=>h.ext e) hl2 al2;refine qg axs (λ _=>true) axP (λ D a y H'=>∃ q,y=.ref q/\q ≠ D/\H' q=some (.tup [.int (aj a).1,.int (aj a).2])) wk.1 wk.2 (λ D _ y H1 H2 ⟨q,h1,h2,h3⟩ e=>⟨q,h1,h2,e.at h3⟩) (λ D _ y H1 o ⟨q,h1,h2,h3⟩=>⟨q,h1,h2,by rw [ae h2];exact h3⟩) (az (by have:=vok.ax.1;omega)) ?_ ?_
  ·intro D a y H' N1 N0 ha hD e ⟨ys0,hys0⟩ ⟨q,hy,hq⟩ k1 _;subst hy;have k1':=k1 rfl;clear k1 k;simp! only [↓bW,↓aU];rw [zM];exact⟨a,hq,λ r H'' hr' e' h'=>k1' _ H'' e' ⟨r,rfl,(λ z=>by rw [z,hys0] at hr';cases hr'),h'⟩⟩
  ·intro D zs H3 hD e3 hD3 al3;rw [lE] at al3;have hx3:=e3.at hx2;have hDx:D ≠ x:=λ z=>by rw [z,hx2] at hD;cases hD
   clear wk;ac_rfl;refine⟨(show (2:Nat) < 1000 by decide),?_⟩
   have tt:cJ (upd H3 x (HO.ins t.a_View dx (dQ room first D))) D (axL (axs.map aj)):=by
    refine⟨zs,by rw [ae hDx];exact hD3,?_,λ i z y hz hy=>?_⟩
    ·rw [al3.1];unfold axL;rw [length_map,length_map]
    ·unfold axL at hz;rw [map_map,getElem?_map] at hz;obtain⟨a,ha,rfl⟩:=Option.map_eq_some_iff.mp hz;obtain⟨q,hq1,_,hq3⟩:=al3.2 i a y ha hy;exact⟨q,hq1,by rw [ae (λ z=>by rw [z,hx3] at hq3;cases hq3)];exact hq3⟩
   have b4:∀ H0,Ext H0 H->H0 x=none->Ext H0 (upd H3 x (HO.ins t.a_View dx (dQ room first D))):=λ H0 q0 q1=>((b2 H0 q0 q1).trans e3).put q1;have hx4:(upd H3 x (HO.ins t.a_View dx (dQ room first D))) x=some (HO.ins t.a_View dx (dQ room first D)):=ah
   have f1:=vn room first D (m := "least") nofun
   have f2:=vn room first D (m := "greatest") nofun
   refine⟨f1,?_⟩
   show jY t.a_View [V.ref x] (upd H3 x (HO.ins t.a_View dx (dQ room first D))) _ _
   generalize upd H3 x (HO.ins t.a_View dx (dQ room first D))=H4 at tt b4 hx4
   have vo:bj t.a_View H4 x room first (axs.map aj):=⟨dx,D,hx4,tt⟩
   rw [xg];refine⟨room,first,axs.map aj,vo,vok.ax.kept,λ H5 e5=>?_⟩
   have hlo:¬ first+bq (axs.map aj) < 0:=by have:=vok.lo;omega
   have hx5:=e5.at hx4;ac_rfl;rw [m8];refine⟨room,first,axs.map aj,vo.ext e5,vok.ax.kept,λ H6 e6=>?_⟩
   have hhi:¬ room<=first+br (axs.map aj):=by have:=vok.hi;omega
   have k':=k H6 D (λ H0 q0 q1=>((b4 H0 q0 q1).trans e5).trans e6) (b3 D hDx hD) (e6.at hx5) ((tt.ext e5).ext e6);clear k;ac_rfl
def AQ  : Sp:=λ vs H Q E=>∃ (a:Int) (b:Int),vs=[.int a,.int b]/\(Q (.int (Int.gcd a b:Int)) H)
theorem Dz  (a:Int) (b:Int) (H:Hp) (Q:VK) (E:XK):AQ  [.int a,.int b] H Q E=(Q (.int (Int.gcd a b:Int)) H):=sJ (f:=λ (a:Int) (b:Int)=>[.int a,.int b]) (λ _ _ _ _ h=>by cases h;exact⟨rfl,rfl⟩) a b
theorem De  {vs:List V}{H:Hp}{Q:VK}{E:XK}(h:AQ  vs H Q E):vs.length=2:=sL h λ _ _=>rfl
theorem qX(T:Tx K mg t):bC P w K mg base CX0 1 t.a_divisor t.d_divisor ["one", "other"] AQ:=by
 refine T.F_divisor.ok di (λ vs H Q E h=>De h) (λ c A o s H vs Q E hr h=>?_)
 ·obtain⟨a,b,rfl,k⟩:=h;refine⟨_,%[%[2,di,%[abs,bQ,%[%[0|0]|1]|6]|4],%[%[3,di,%[abs,bQ,%[%[1|0]|1]|6]|4],%[(@kF _ _ _ _ _ _ Lv %[(cH hr.units),%[3|0],%[0|2],(ai _)|14] %[%[4,di,%[dN,%[2|0],%[3|0]|12]|4],%[%[2,di,%[3|0]|4],%[%[3,di,%[4|0]|4]|11]|10]|10]),%[%[%[2|0]|13]|11]|10]|10]|10],?_⟩;rw [show start ["one", "other", "found", "rest", "smaller"] [.int a,.int b]=[some (.int a),some (.int b),none,none,none] from rfl];ac_rfl;refine nB (by repeat' first|exact A2|exact uo|exact mo_nI|apply kI|apply mo_unN|exact o9|exact HA|exact pd|exact mo_rI|exact mo_rIsN|exact mo_rNotN|exact uk|exact mo_qIx|exact um|exact nZ|apply j7|apply mo_tB|apply mo_not|apply mo_and|apply mo_or|apply A3|apply mo_un|apply oa|apply mo_qLst|apply A4) (λ m σ H'=>∃ (f r:Int) (sm:Option V),σ=[some (.int a),some (.int b),some (.int f),some (.int r),sm]/\H'=H/\m=r.toNat/\0<=f/\0<=r/\Int.gcd f r=Int.gcd a b) _ ⟨_,_,_,rfl,rfl,rfl,AE a,AE b,Di a b⟩ ?_;rintro m _ _ ⟨f,r,sm,rfl,rfl,rfl,hf,hr',hg⟩;rename_i H
  by_cases hz:r=0
  ·subst hz;have e:f=(Int.gcd a b:Int):=by rw [←hg];exact(p6 f hf).symm
   rw [←e] at k;clear e hg;ac_rfl
  ·have hp:0 < r:=by omega
   have e1:=p7 f r hp hf;have e2:=Mg f hp;have e3:=LP f hz;have fin:∃ m',m' < r.toNat/\∃ (f' r':Int) (sm':Option V),([some (V.int a),some (V.int b),some (V.int r),some (V.int (f % r)),some (V.int (f % r))]:St)=[some (V.int a),some (V.int b),some (V.int f'),some (V.int r'),sm']/\m'=r'.toNat/\0<=f'/\0<=r'/\Int.gcd f' r'=Int.gcd a b:=⟨_,by omega,r,f % r,_,rfl,rfl,hr',e3,e1.trans hg⟩;clear k e1 hg;ac_rfl
abbrev qC  (p:Addr) (H:Hp) (Q:VK) (E:XK):Prop:=∃ ns:List Int,H p=some (.lst (ns.map V.int))/\Q (.int (iZ ns)) H
def tZ  : Sp:=λ vs H Q E=>∃ (p:Addr),vs=[.ref p]/\(qC  p H Q E)
theorem zQ  (p:Addr) (H:Hp) (Q:VK) (E:XK):tZ  [.ref p] H Q E=(qC  p H Q E):=xt (f:=λ (p:Addr)=>[.ref p]) (λ _ _ h=>by cases h;exact rfl) p
theorem yS  {vs:List V}{H:Hp}{Q:VK}{E:XK}(h:tZ  vs H Q E):vs.length=1:=sO h λ _=>rfl
theorem kX(T:Tx K mg t):bC P w K mg base CX0 2 t.a_divisor_of t.d_divisor_of ["numbers"] tZ:=by
 have G_divisor:=%[qX|46];refine T.F_divisor_of.ok cR (λ vs H Q E h=>yS h) (λ c A o s H vs Q E hr h=>?_)
 ·obtain⟨p,rfl,ns,hp,k⟩:=h;refine⟨_,%[%[1,cR,%[0|2]|4],%[%[Lv,rfl,%[%[0|0]|24],%[2,cR|5],%[%[1,cR,%[divisor,%[%[1|0],%[%[2|0]|1]|1]|3]|4]|11],(by intros;rfl)|30],%[%[%[1|0]|13]|11]|10]|10],?_⟩;rw [show start ["numbers", "found", "number"] [.ref p]=[some (.ref p),none,none] from rfl];clear G_divisor;ac_rfl;refine ed (xs:=ns.map V.int) (λ i σ H'=>∃ v:Option V,σ=[some (.ref p),some (.int (iZ (ns.take i))),v]/\H'=H) ⟨none,rfl,rfl⟩ (λ i σ H' _ ⟨_,_,e⟩=>by rw [e];exact hp) ?_ ?_
  ·rintro i y _ _ hi ⟨v,rfl,rfl⟩;rename_i H;rw [Lh] at hi;obtain⟨z,hz,rfl⟩:=Lm.mp hi;have e1:=mv ns i z hz;clear hz hi k;simp! only [↓aE];rw [Dz];ac_rfl;exact⟨_,rfl⟩
  ·rintro _ _ ⟨v,rfl,rfl⟩;rename_i H;have e2:iZ (ns.take (ns.map V.int).length)=iZ ns:=by rw [K2,Mw]
   rw [e2];ac_rfl
theorem Ae{zs:List Tm3}(h:cW zs){z:Tm3}(hz:z∈zs)(b:Int):gS z.1 b:=.inl (by have:=(h.all z hz).1;omega)
abbrev qt  (p:Addr) (q:Addr) (H:Hp) (Q:VK) (E:XK):Prop:=∃ (zs:List Tm3) (cs:List (Int × Int)),gz H p zs/\du H q cs/\cW zs/\cU zs cs/\∀ H',Ext H H'->Q (.int (bf zs cs)) H'
def tQ  : Sp:=λ vs H Q E=>∃ (p:Addr) (q:Addr),vs=[.ref p,.ref q]/\(qt  p q H Q E)
theorem eK  (p:Addr) (q:Addr) (H:Hp) (Q:VK) (E:XK):tQ  [.ref p,.ref q] H Q E=(qt  p q H Q E):=sJ (f:=λ (p:Addr) (q:Addr)=>[.ref p,.ref q]) (λ _ _ _ _ h=>by cases h;exact⟨rfl,rfl⟩) p q
theorem yK  {vs:List V}{H:Hp}{Q:VK}{E:XK}(h:tQ  vs H Q E):vs.length=2:=sL h λ _ _=>rfl
theorem cP(T:Tx K mg t):bC P w K mg base CX0 1 t.a_least_sum t.d_least_sum ["terms", "case"] tQ:=by
 refine T.F_least_sum.ok oQ (λ vs H Q E h=>yK h) (λ c A o s H vs Q E hr h=>?_)
 ·obtain⟨p,q,rfl,zs,cs,⟨ys,hp,al⟩,⟨xs,hq,bl⟩,ht,hc,k⟩:=h;refine⟨_,%[%[%[sum,(cv rfl),%[%[(["term", "bounds", "terms", "case"]),(2),(aP (aa dD) ["terms", "case"] rfl rfl nofun),rfl,%[∅,T.z_zip,%[%[0|0],%[%[1|0]|1]|1],∅,∅|39],(λ C s₀ H₀ ex pn=>(%[(2),rfl,%[%[(0),_,(show List.Nodup (["term", "bounds", "terms", "case"]:List Str) from by decide +kernel),rfl,(Or.inl rfl),%[0|7]|18],%[%[(1),_,(show List.Nodup (["term", "bounds", "terms", "case"]:List Str) from by decide +kernel),rfl,(Or.inl rfl),%[0|7]|18],(@aB _),∅|15],∅|15],∅,∅|22].mono λ _ _ _ _ h=>aZ h)),(λ C s₀ H₀ ex pn=>(@aY _)),(λ C s₀ H₀ ex pn=>%[bh,%[ay,%[0|0],%[0|2],(λ _ _=>rfl)|9],%[ay,%[1|0],%[0|2],(λ _ _=>rfl)|9]|12]),(by intros;rfl)|26]|1]|6]|13]|11],?_⟩;rw [show start ["terms", "case"] [.ref p,.ref q]=[some (.ref p),some (.ref q)] from rfl];ac_rfl;have wk:=jU (R1:=trP) (R2:=axP) (λ _ _ _ _ h e=>h.ext e) (λ _ _ _ _ h e=>h.ext e) hp hq al bl;refine bM (zs.zip cs) (λ _=>true) (λ z=>.int (z.1.1 * z.2.1)) (AG trP axP) wk.1 wk.2 (az (by have:=ht.len;rw [Mc];omega)) ?_ ?_
  ·intro D z y H' N1 N0 hz hD e ⟨u,q1,q2,hu,hu2,⟨r1,h1,h1'⟩,⟨r2,h2,h2'⟩⟩ k1 _;subst hu h1 h2;have k1':N1 (.int (z.1.1 * z.2.1)) H':=k1 rfl H' (Ext.refl _);have hcm:=Ae ht (M9 hz).1 z.2.1;clear k1 k;simp! only [↓b7,↓aU]
  ·intro D H' hD e hD';rw [lE,show ((zs.zip cs).map λ z=>V.int (z.1.1 * z.2.1))=((zs.zip cs).map λ z=>z.1.1 * z.2.1).map V.int by rw [Mi];rfl] at hD';have k2:Q (.int ((zs.zip cs).map λ z=>z.1.1 * z.2.1).sum) H':=k H' e;clear k wk;ac_rfl
abbrev qB  (p:Addr) (q:Addr) (H:Hp) (Q:VK) (E:XK):Prop:=∃ (zs:List Tm3) (cs:List (Int × Int)),gz H p zs/\du H q cs/\cW zs/\cU zs cs/\∀ H',Ext H H'->Q (.int (ck zs cs)) H'
def tY  : Sp:=λ vs H Q E=>∃ (p:Addr) (q:Addr),vs=[.ref p,.ref q]/\(qB  p q H Q E)
theorem gQ  (p:Addr) (q:Addr) (H:Hp) (Q:VK) (E:XK):tY  [.ref p,.ref q] H Q E=(qB  p q H Q E):=sJ (f:=λ (p:Addr) (q:Addr)=>[.ref p,.ref q]) (λ _ _ _ _ h=>by cases h;exact⟨rfl,rfl⟩) p q
theorem yR  {vs:List V}{H:Hp}{Q:VK}{E:XK}(h:tY  vs H Q E):vs.length=2:=sL h λ _ _=>rfl
theorem bU(T:Tx K mg t):bC P w K mg base CX0 1 t.a_greatest_sum t.d_greatest_sum ["terms", "case"] tY:=by
 refine T.F_greatest_sum.ok jc (λ vs H Q E h=>yR h) (λ c A o s H vs Q E hr h=>?_)
 ·obtain⟨p,q,rfl,zs,cs,⟨ys,hp,al⟩,⟨xs,hq,bl⟩,ht,hc,k⟩:=h;refine⟨_,%[%[%[sum,(cv rfl),%[%[(["term", "bounds", "terms", "case"]),(2),(aP (aa bY) ["terms", "case"] rfl rfl nofun),rfl,%[∅,T.z_zip,%[%[0|0],%[%[1|0]|1]|1],∅,∅|39],(λ C s₀ H₀ ex pn=>(%[(2),rfl,%[%[(0),_,(show List.Nodup (["term", "bounds", "terms", "case"]:List Str) from by decide +kernel),rfl,(Or.inl rfl),%[0|7]|18],%[%[(1),_,(show List.Nodup (["term", "bounds", "terms", "case"]:List Str) from by decide +kernel),rfl,(Or.inl rfl),%[0|7]|18],(@aB _),∅|15],∅|15],∅,∅|22].mono λ _ _ _ _ h=>aZ h)),(λ C s₀ H₀ ex pn=>(@aY _)),(λ C s₀ H₀ ex pn=>%[bh,%[ay,%[0|0],%[0|2],(λ _ _=>rfl)|9],%[ay,%[1|0],%[0|2],(λ _ _=>rfl)|9]|12]),(by intros;rfl)|26]|1]|6]|13]|11],?_⟩;rw [show start ["terms", "case"] [.ref p,.ref q]=[some (.ref p),some (.ref q)] from rfl];ac_rfl;have wk:=jU (R1:=trP) (R2:=axP) (λ _ _ _ _ h e=>h.ext e) (λ _ _ _ _ h e=>h.ext e) hp hq al bl;refine bM (zs.zip cs) (λ _=>true) (λ z=>.int (z.1.1 * z.2.2)) (AG trP axP) wk.1 wk.2 (az (by have:=ht.len;rw [Mc];omega)) ?_ ?_
  ·intro D z y H' N1 N0 hz hD e ⟨u,q1,q2,hu,hu2,⟨r1,h1,h1'⟩,⟨r2,h2,h2'⟩⟩ k1 _;subst hu h1 h2;have k1':N1 (.int (z.1.1 * z.2.2)) H':=k1 rfl H' (Ext.refl _);have hcm:=Ae ht (M9 hz).1 z.2.2;clear k1 k;simp! only [↓b7,↓aU]
  ·intro D H' hD e hD';rw [lE,show ((zs.zip cs).map λ z=>V.int (z.1.1 * z.2.2))=((zs.zip cs).map λ z=>z.1.1 * z.2.2).map V.int by rw [Mi];rfl] at hD';have k2:Q (.int ((zs.zip cs).map λ z=>z.1.1 * z.2.2).sum) H':=k H' e;clear k wk;ac_rfl
abbrev qp  (p:Addr) (q:Addr) (H:Hp) (Q:VK) (E:XK):Prop:=∃ (zs:List Tm3) (cs:List (Int × Int)),gz H p zs/\du H q cs/\cW zs/\cU zs cs/\∀ H',Ext H H'->Q (.int (iZ (bZ zs cs))) H'
def tO  : Sp:=λ vs H Q E=>∃ (p:Addr) (q:Addr),vs=[.ref p,.ref q]/\(qp  p q H Q E)
theorem zK  (p:Addr) (q:Addr) (H:Hp) (Q:VK) (E:XK):tO  [.ref p,.ref q] H Q E=(qp  p q H Q E):=sJ (f:=λ (p:Addr) (q:Addr)=>[.ref p,.ref q]) (λ _ _ _ _ h=>by cases h;exact⟨rfl,rfl⟩) p q
theorem yI  {vs:List V}{H:Hp}{Q:VK}{E:XK}(h:tO  vs H Q E):vs.length=2:=sL h λ _ _=>rfl
theorem qS(T:Tx K mg t):bC P w K mg base CX0 3 t.a_rest_of t.d_rest_of ["terms", "case"] tO:=by
 have G_divisor_of:=%[kX|46];refine T.F_rest_of.ok xm (λ vs H Q E h=>yI h) (λ c A o s H vs Q E hr h=>?_)
 ·obtain⟨p,q,rfl,zs,cs,⟨ys,hp,al⟩,⟨xs,hq,bl⟩,ht,hc,k⟩:=h;refine⟨_,%[%[%[divisor_of,%[%[(["term", "bounds", "terms", "case"]),(2),(aP (aa fy) ["terms", "case"] rfl rfl nofun),rfl,%[∅,T.z_zip,%[%[0|0],%[%[1|0]|1]|1],∅,∅|39],(λ C s₀ H₀ ex pn=>(%[(2),rfl,%[%[(0),_,(show List.Nodup (["term", "bounds", "terms", "case"]:List Str) from by decide +kernel),rfl,(Or.inl rfl),%[0|7]|18],%[%[(1),_,(show List.Nodup (["term", "bounds", "terms", "case"]:List Str) from by decide +kernel),rfl,(Or.inl rfl),%[0|7]|18],(@aB _),∅|15],∅|15],∅,∅|22].mono λ _ _ _ _ h=>aZ h)),(λ C s₀ H₀ ex pn=>(@nS _ _ _ %[cD,%[ay,%[1|0],%[0|2],(λ _ _=>rfl)|9],%[ay,%[1|0],%[0|2],(λ _ _=>rfl)|9],(ai _)|14])),(λ C s₀ H₀ ex pn=>%[ay,%[0|0],%[0|2],(λ _ _=>rfl)|9]),(by intros;rfl)|26]|1]|3]|13]|11],?_⟩;rw [show start ["terms", "case"] [.ref p,.ref q]=[some (.ref p),some (.ref q)] from rfl];clear G_divisor_of;ac_rfl;have wk:=jU (R1:=trP) (R2:=axP) (λ _ _ _ _ h e=>h.ext e) (λ _ _ _ _ h e=>h.ext e) hp hq al bl;refine bM (zs.zip cs) (λ z=>decide (z.2.1 < z.2.2)) (λ z=>.int z.1.1) (AG trP axP) wk.1 wk.2 (az (by have:=ht.len;rw [Mc];omega)) ?_ ?_
  ·intro D z y H' N1 N0 hz hD e ⟨u,q1,q2,hu,hu2,⟨r1,h1,h1'⟩,⟨r2,h2,h2'⟩⟩ k1 k0;subst hu h1 h2
   by_cases hlt:z.2.1 < z.2.2
   ·have k1':N1 (.int z.1.1) H':=k1 (Ll hlt) H' (Ext.refl _);clear k1 k0 k;simp! only [↓b7,↓aU]
   ·have k0':N0 H':=k0 (Lj hlt) H' (Ext.refl _);clear k1 k0 k;simp! only [↓b7,↓aU]
  ·intro D H' hD e hD';rw [show (((zs.zip cs).filter λ z=>decide (z.2.1 < z.2.2)).map λ z=>V.int z.1.1)=(bZ zs cs).map V.int by unfold bZ;rw [map_map];rfl] at hD';have k2:=k H' e;clear k wk;ac_rfl;rw [zQ];exact⟨_,hD',k2⟩
def xv(H:Hp)(s:List V)(v:V):Prop:=∃ r,v=.ref r/\H r=some (.tup s)
theorem xv.ext{H H':Hp}{s:List V}{v:V}(h:xv H s v)(e:Ext H H'):xv H' s v:=by
 obtain⟨r,h1,h2⟩:=h;exact⟨r,h1,e.at h2⟩
def DI(g l gr r:Int):Option (List V):=if g < l then some [.str "low"] else if gr < g then some [.str "high"] else if 1 < r/\(g - l) % r ≠ 0 then some [.str "rest",.int r] else none
def zV(zs:List Tm3)(cs:List (Int × Int))(g:Int):Option (List V):=DI g (bf zs cs) (ck zs cs) (iZ (bZ zs cs))
def J7(H:Hp):Option (List V)->V->Prop
 | none,v=>v=.non
 | some s,v=>xv H s v
theorem rX{g l gr r:Int}:(DI g l gr r).isSome=cj g l gr r:=by
 unfold DI cj
 by_cases h1:g < l
 ·rw [K7 h1,Ll h1];rfl
 rw [K5 h1,Lj h1]
 by_cases h2:gr < g
 ·rw [K7 h2,Ll h2];rfl
 rw [K5 h2,Lj h2]
 by_cases h3:1 < r
 ·have:=LP (g - l) (show r ≠ 0 by omega)
  by_cases h4:(g - l) % r=0
  ·rw [K5 (λ h=>h.2 h4),h4,Lj (Int.lt_irrefl 0),NI];rfl
  ·rw [K7 ⟨h3,h4⟩,Ll h3,Ll (show 0 < (g - l) % r by omega)];rfl
 ·rw [K5 (λ h=>h3 h.1),Lj h3];rfl
theorem zy{zs:List Tm3}{cs:List (Int × Int)}{g:Int}{o:Option (List V)}(h:zV zs cs g=o):cV zs cs g=o.isSome:=by
 rw [←h];exact rX.symm
abbrev mQ  (p:Addr) (g:Int) (q:Addr) (H:Hp) (Q:VK) (E:XK):Prop:=∃ (zs:List Tm3) (cs:List (Int × Int)),gz H p zs/\du H q cs/\cW zs/\cU zs cs/\∀ v H',Ext H H'->J7 H' (zV zs cs g) v->Q v H'
def nP  : Sp:=λ vs H Q E=>∃ (p:Addr) (g:Int) (q:Addr),vs=[.ref p,.int g,.ref q]/\(mQ  p g q H Q E)
theorem xk  (p:Addr) (g:Int) (q:Addr) (H:Hp) (Q:VK) (E:XK):nP  [.ref p,.int g,.ref q] H Q E=(mQ  p g q H Q E):=ni (f:=λ (p:Addr) (g:Int) (q:Addr)=>[.ref p,.int g,.ref q]) (λ _ _ _ _ _ _ h=>by cases h;exact⟨rfl,rfl,rfl⟩) p g q
theorem wK  {vs:List V}{H:Hp}{Q:VK}{E:XK}(h:nP  vs H Q E):vs.length=3:=nj h λ _ _ _=>rfl
theorem vK(T:Tx K mg t):bC P w K mg base CX0 4 t.a_end_of t.d_end_of ["terms", "goal", "case"] nP:=by
 have G_least_sum:=%[cP|46];have G_greatest_sum:=%[bU|46];have G_rest_of:=%[qS|46];refine T.F_end_of.ok kT (λ vs H Q E h=>wK h) (λ c A o s H vs Q E hr h=>?_)
 ·obtain⟨p,g,q,rfl,zs,cs,hp,hq,ht,hc,k⟩:=h;refine⟨_,%[%[3,kT,%[least_sum,%[%[0|0],%[%[2|0]|1]|1]|3]|4],%[%[%[dR,%[3|0],%[1|0],(ai _)|14],%[%[%[%[(@bH _ _ _ _)|1]|17]|13]|11],(@ar _)|16],%[%[%[cD,%[greatest_sum,%[%[0|0],%[%[2|0]|1]|1]|3],%[1|0],(ai _)|14],%[%[%[%[(@bH _ _ _ _)|1]|17]|13]|11],(@ar _)|16],%[%[4,kT,%[rest_of,%[%[0|0],%[%[2|0]|1]|1]|3]|4],%[%[(PW.pt %[%[dR,%[4|0],%[0|2],(ai _)|14],(@dz _ _ _ _ %[(cH hr.units),%[dN,%[aF,%[1|0],%[3|0]|12],%[4|0]|12],%[0|2],(ai _)|14])|36]),%[%[%[%[(@bH _ _ _ _),%[%[4|0]|1]|1]|17]|13]|11],(@ar _)|16],%[%[(@dM _ _ _)|13]|11]|10]|10]|10]|10]|10],?_⟩;rw [show start ["terms", "goal", "case", "least", "rest"] [.ref p,.int g,.ref q]=[some (.ref p),some (.int g),some (.ref q),none,none] from rfl];clear G_least_sum G_greatest_sum G_rest_of;unfold zV at k;have en:∀ o,DI g (bf zs cs) (ck zs cs) (iZ (bZ zs cs))=o->∀ v H',Ext H H'->J7 H' o v->Q v H':=λ o ho v H' e h=>k v H' e (by rw [ho];exact h);unfold DI at en;exists en;clear k;ac_rfl;rw [eK];refine⟨zs,cs,hp,hq,ht,hc,λ H1 e1=>?_⟩
  by_cases h1:g < bf zs cs
  ·have k:=en () _ (K7 h1);exists k;clear en;ac_rfl;intro r H2 hr2 e2 h2;exact k () _ H2 (e1.trans e2) ⟨r,rfl,h2⟩
  ac_rfl;rw [gQ];refine⟨zs,cs,bL hp e1,aC hq e1,ht,hc,λ H2 e2=>?_⟩
  by_cases h2:ck zs cs < g
  ·have k:=en () _ (by rw [K5 h1,K7 h2]);exists k;clear en;ac_rfl;intro r H3 hr3 e3 h3;exact k () _ H3 (e1.trans (e2.trans e3)) ⟨r,rfl,h3⟩
  ac_rfl;rw [zK];refine⟨zs,cs,bL hp (e1.trans e2),aC hq (e1.trans e2),ht,hc,λ H3 e3=>?_⟩;have hgn:=om (bZ zs cs);generalize iZ (bZ zs cs)=r at en hgn
  by_cases h3:1 < r
  ·have hr0:0 < r:=by omega
   by_cases h4:(g - bf zs cs) % r=0
   ·have k2:=en () none (by rw [K5 h1,K5 h2,K5 (λ h=>h.2 h4)]) .non H3 (e1.trans (e2.trans e3)) rfl;clear en;ac_rfl
   ·have k:=en () _ (by rw [K5 h1,K5 h2,K7 ⟨h3,h4⟩]);exists k;clear en;ac_rfl;intro r' H4 hr4 e4 h4';exact k () _ H4 (e1.trans (e2.trans (e3.trans e4))) ⟨r',rfl,h4'⟩
  ·have k2:=en () none (by rw [K5 h1,K5 h2,K5 (λ h=>h3 h.1)]) .non H3 (e1.trans (e2.trans e3)) rfl;clear en;ac_rfl
abbrev Bx:=List (Int × Int)
def InB:Bx->List Int->Prop
 | [],[]=>True
 | b::cs,x::xs=>(b.1<=x/\x<=b.2)/\InB cs xs
 | _,_=>False
def jd:List Tm3->List Int->Int
 | z::zs,x::xs=>z.1 * x+jd zs xs
 | _,_=>0
def Kj:Bx->Int
 | []=>1
 | b::cs=>(b.2 - b.1+1) * Kj cs
def Kd(cs:Bx):Prop:=∀ b∈cs,b.1<=b.2
theorem bt(z:Tm3)(b:Int × Int)(zs:List Tm3)(cs:Bx):bf (z::zs) (b::cs)=z.1 * b.1+bf zs cs/\ck (z::zs) (b::cs)=z.1 * b.2+ck zs cs:=by
 unfold bf ck;rw [zip_cons_cons,map_cons,map_cons,sum_cons,sum_cons];exact⟨rfl,rfl⟩
theorem iD:∀ {zs:List Tm3}{cs:Bx}{xs:List Int},(∀ z∈zs,(0:Int)<=z.1)->cs.length=zs.length->InB cs xs->bf zs cs<=jd zs xs/\jd zs xs<=ck zs cs
 | [],[],[],_,_,_=>⟨Lp _,Lp _⟩
 | [],_::_,_,_,h,_=>by simp at h
 | _::_,[],_,_,h,_=>by simp at h
 | _,[],_::_,_,_,h=>h.elim
 | _,_::_,[],_,_,h=>h.elim
 | z::zs,b::cs,x::xs,hz,hl,hx=>by
  have ih:=iD (zs:=zs) (cs:=cs) (xs:=xs) (λ y hy=>hz y (KZ _ hy)) (by simpa using hl) hx.2;have h0:=hz z K1;have m1:=Lc hx.1.1 h0;have m2:=Lc hx.1.2 h0;obtain⟨s1,s2⟩:=bt z b zs cs;rw [s1,s2]
  show z.1 * b.1+bf zs cs<=z.1 * x+jd zs xs/\z.1 * x+jd zs xs<=z.1 * b.2+ck zs cs
  omega
theorem p9:∀ (ns:List Int) (a:Int),(ns.foldl (λ f n=>(Int.gcd f n:Int)) a ∣ a)/\∀ n∈ns,ns.foldl (λ f n=>(Int.gcd f n:Int)) a ∣ n
 | [],a=>⟨Int.dvd_refl _,λ _ h=>by cases h⟩
 | n::ns,a=>by
  obtain⟨h1,h2⟩:=p9 ns (Int.gcd a n:Int);refine⟨Int.dvd_trans h1 (Int.gcd_dvd_left ..),λ m hm=>?_⟩
  rcases Ls.mp hm with rfl|hm
  ·exact Int.dvd_trans h1 (Int.gcd_dvd_right ..)
  ·exact h2 m hm
theorem pS(d:Int):∀ {zs:List Tm3}{cs:Bx}{xs:List Int},cs.length=zs.length->InB cs xs->(∀ n∈bZ zs cs,d ∣ n)->d ∣ jd zs xs - bf zs cs
 | [],[],[],_,_,_=>⟨0,by rw [LL];rfl⟩
 | [],_::_,_,h,_,_=>by simp at h
 | _::_,[],_,h,_,_=>by simp at h
 | _,[],_::_,_,h,_=>h.elim
 | _,_::_,[],_,h,_=>h.elim
 | z::zs,b::cs,x::xs,hl,hx,hd=>by
  have hd':∀ n∈bZ zs cs,d ∣ n:=λ n hn=>hd n (by
   unfold bZ at hn ⊢;rw [zip_cons_cons];obtain⟨p,hp,e⟩:=List.mem_map.mp hn;obtain⟨q1,q2⟩:=List.mem_filter.mp hp;exact List.mem_map.mpr ⟨p,List.mem_filter.mpr ⟨mem_cons_of_mem _ q1,q2⟩,e⟩)
  have ih:=pS d (zs:=zs) (cs:=cs) (xs:=xs) (by simpa using hl) hx.2 hd';rw [(bt z b zs cs).1]
  show d ∣ z.1 * x+jd zs xs - (z.1 * b.1+bf zs cs)
  have e:z.1 * x+jd zs xs - (z.1 * b.1+bf zs cs)=z.1 * (x - b.1)+(jd zs xs - bf zs cs):=by rw [MV];omega
  rw [e];refine Int.dvd_add ?_ ih
  by_cases hb:b.1 < b.2
  ·have:d ∣ z.1:=hd z.1 (by
    unfold bZ;rw [zip_cons_cons];exact List.mem_map.mpr ⟨(z,b),List.mem_filter.mpr ⟨mem_cons_self,decide_eq_true hb⟩,rfl⟩)
   exact Int.dvd_trans this (Int.dvd_mul_right ..)
  ·have:x - b.1=0:=by have:=hx.1;omega
   rw [this,LL];exact⟨0,by rw [LL]⟩
theorem InB.len:∀ {cs:Bx}{xs:List Int},InB cs xs->xs.length=cs.length
 | [],[],_=>rfl
 | [],_::_,h=>h.elim
 | _::_,[],h=>h.elim
 | _::_,_::_,h=>L6 (· + 1) (InB.len h.2)
def upC(cs:Bx)(k:Nat)(at':Int):Bx:=cs.set k (at'+1,(cs.getD k default).2)
def loC(cs:Bx)(k:Nat)(at':Int):Bx:=cs.set k ((cs.getD k default).1,at')
theorem uO:∀ {cs:Bx}{xs:List Int}{k:Nat}{a:Int},k < cs.length->InB cs xs->InB (upC cs k a) xs\/InB (loC cs k a) xs
 | [],_,_,_,h,_=>by simp at h
 | _::_,[],_,_,_,h=>h.elim
 | b::cs,x::xs,0,a,_,hx=>by
  by_cases h:x<=a
  ·exact .inr ⟨⟨hx.1.1,h⟩,hx.2⟩
  ·exact .inl ⟨⟨by show a+1<=x;omega,hx.1.2⟩,hx.2⟩
 | b::cs,x::xs,k+1,a,hk,hx=>by
  rcases uO (cs:=cs) (k:=k) (a:=a) (by simpa using hk) hx.2 with h|h
  ·exact .inl ⟨hx.1,h⟩
  ·exact .inr ⟨hx.1,h⟩
theorem uX:∀ {cs ds:Bx}{xs:List Int},InB cs xs->ds.length=cs.length->(∀ i:Nat,i < cs.length->(ds.getD i default).1<=(cs.getD i default).1/\(cs.getD i default).2<=(ds.getD i default).2)->InB ds xs
 | [],[],[],_,_,_=>trivial
 | [],_::_,_,_,h,_=>by simp at h
 | _::_,[],_,_,h,_=>by simp at h
 | [],_,_::_,h,_,_=>h.elim
 | _::_,_,[],h,_,_=>h.elim
 | b::cs,d::ds,x::xs,hx,hl,h=>by
  have h0:=h 0 (by simp);have h0':d.1<=b.1/\b.2<=d.2:=h0;refine⟨by have:=hx.1;omega,uX hx.2 (by simpa using hl) λ i hi=>?_⟩;exact h (i+1) (by simpa using hi)
theorem cU.at{zs:List Tm3}{cs:Bx}(h:cU zs cs){i:Nat}(hi:i < zs.length):(zs.getD i default).2.1<=(cs.getD i default).1/\(cs.getD i default).1<=(cs.getD i default).2/\(cs.getD i default).2<=(zs.getD i default).2.2:=by
 have hc:i < cs.length:=by rw [h.len];exact hi
 have hm:(zs[i],cs[i])∈zs.zip cs:=by
  have:(zs.zip cs)[i]? = some (zs[i],cs[i]):=by rw [LS];exact⟨KU hi,KU hc⟩
  exact My this
 have:=h.all _ hm;rw [Lb,Lb,KU hi,KU hc];exact this
theorem cU.of{zs:List Tm3}{cs:Bx}(hl:cs.length=zs.length)(h:∀ i:Nat,i < zs.length->(zs.getD i default).2.1<=(cs.getD i default).1/\(cs.getD i default).1<=(cs.getD i default).2/\(cs.getD i default).2<=(zs.getD i default).2.2):cU zs cs:=by
 refine⟨hl,λ p hp=>?_⟩;obtain⟨i,hi⟩:=NC.mp hp;obtain⟨h1,h2⟩:=LS.mp hi;have hz:=(K0.mp h1).1;have:=h i hz;rw [Lb,Lb,h1,h2] at this;exact this
theorem cU.bx{zs:List Tm3}{cs:Bx}(h:cU zs cs):Kd cs:=λ b hb=>by
 obtain⟨i,hi⟩:=NC.mp hb;have hl:=(K0.mp hi).1;have:=(h.at (i:=i) (by rw [←h.len];exact hl)).2.1;rw [Lb,hi] at this;exact this
theorem mr{cs:Bx}{k i:Nat}{b:Int × Int}(hk:k < cs.length):(cs.set k b).getD i default=if i=k then b else cs.getD i default:=by
 rw [Lb,Lb,List.getElem?_set]
 by_cases h:i=k
 ·subst h;rw [K7 rfl,K7 hk,K7 rfl];rfl
 ·rw [K5 (λ e=>h e.symm),K5 h]
theorem cU.part{zs:List Tm3}{cs:Bx}{k:Nat}{a:Int}(h:cU zs cs)(hk:k < zs.length)(h1:(cs.getD k default).1<=a)(h2:a < (cs.getD k default).2):cU zs (upC cs k a)/\cU zs (loC cs k a):=by
 have hc:k < cs.length:=by rw [h.len];exact hk
 have hk':=h.at hk;refine⟨cU.of (by unfold upC;rw [length_set];exact h.len) λ i hi=>?_,cU.of (by unfold loC;rw [length_set];exact h.len) λ i hi=>?_⟩
 ·unfold upC;rw [mr hc]
  by_cases e:i=k
  ·subst e;rw [K7 rfl];show _<=a+1/\a+1<=(cs.getD i default).2/\_;omega
  ·rw [K5 e];exact h.at hi
 ·unfold loC;rw [mr hc]
  by_cases e:i=k
  ·subst e;rw [K7 rfl];show _<=(cs.getD i default).1/\(cs.getD i default).1<=a/\a<=_;omega
  ·rw [K5 e];exact h.at hi
theorem pE:∀ {zs:List Tm3}{cs:Bx},cs.length=zs.length->jd zs (cs.map λ b=>b.1)=bf zs cs/\jd zs (cs.map λ b=>b.2)=ck zs cs
 | [],[],_=>⟨rfl,rfl⟩
 | [],_::_,h=>by simp at h
 | _::_,[],h=>by simp at h
 | z::zs,b::cs,h=>by
  obtain⟨i1,i2⟩:=pE (zs:=zs) (cs:=cs) (by simpa using h);obtain⟨s1,s2⟩:=bt z b zs cs;rw [s1,s2,←i1,←i2];exact⟨rfl,rfl⟩
theorem uZ:∀ {cs:Bx},Kd cs->InB cs (cs.map λ b=>b.1)/\InB cs (cs.map λ b=>b.2)
 | [],_=>⟨trivial,trivial⟩
 | b::cs,h=>by
  have ih:=uZ (cs:=cs) λ c hc=>h c (KZ _ hc);have hb:=h b K1;exact⟨⟨⟨Lp _,hb⟩,ih.1⟩,⟨hb,Lp _⟩,ih.2⟩
def sP(zs:List Tm3)(g:Int)(cs:Bx):Option (List Int):=if bf zs cs=g then some (cs.map λ b=>b.1) else if ck zs cs=g then some (cs.map λ b=>b.2) else none
theorem Fd{zs:List Tm3}{g:Int}{cs:Bx}{xs:List Int}(h:cU zs cs)(hx:sP zs g cs=some xs):InB cs xs/\jd zs xs=g:=by
 obtain⟨v1,v2⟩:=pE h.len;obtain⟨i1,i2⟩:=uZ h.bx;unfold sP at hx;split at hx
 ·rename_i e;cases hx;exact⟨i1,v1.trans e⟩
 ·split at hx
  ·rename_i e;cases hx;exact⟨i2,v2.trans e⟩
  ·cases hx
def gR(t:Int)(b:Int × Int)(al bg:Int):Int × Int:=(if b.1 < b.2 - bg / t then b.2 - bg / t else b.1,if b.1+al / t < b.2 then b.1+al / t else b.2)
def cE(zs:List Tm3)(cs:Bx)(al bg:Int):Nat->Option (Nat × Int × Int)
 | 0=>none
 | i+1=>if (cs.getD i default).1 < (cs.getD i default).2 then (match cE zs cs al bg i with
   | none=>some (i,gR (zs.getD i default).1 (cs.getD i default) al bg)
   | some q=>if (gR (zs.getD i default).1 (cs.getD i default) al bg).2 - (gR (zs.getD i default).1 (cs.getD i default) al bg).1 < q.2.2 - q.2.1 then some (i,gR (zs.getD i default).1 (cs.getD i default) al bg) else some q) else cE zs cs al bg i
theorem hU{zs:List Tm3}{cs:Bx}{al bg:Int}:∀ {i:Nat}{q:Nat × Int × Int},cE zs cs al bg i=some q->q.1 < i/\(cs.getD q.1 default).1 < (cs.getD q.1 default).2/\q.2=gR (zs.getD q.1 default).1 (cs.getD q.1 default) al bg
 | 0,q,h=>by cases h
 | i+1,q,h=>by
  have ih:=λ q h=>hU (zs:=zs) (cs:=cs) (al:=al) (bg:=bg) (i:=i) (q:=q) h;unfold cE at h;split at h
  ·rename_i hlt;split at h
   ·cases h;exact⟨MH _,hlt,rfl⟩
   ·rename_i q' hq;split at h
    ·cases h;exact⟨MH _,hlt,rfl⟩
    ·cases h;have:=ih _ hq;exact⟨by omega,this.2⟩
  ·have:=ih _ h;exact⟨by omega,this.2⟩
theorem iC{zs:List Tm3}{cs:Bx}{al bg:Int}:∀ {i:Nat},(∃ k,k < i/\(cs.getD k default).1 < (cs.getD k default).2)->∃ q,cE zs cs al bg i=some q
 | 0,⟨k,h,_⟩=>absurd h (Nat.not_lt_zero _)
 | i+1,⟨k,hk,hlt⟩=>by
  unfold cE
  by_cases h:(cs.getD i default).1 < (cs.getD i default).2
  ·rw [K7 h]
   cases cE zs cs al bg i with
   | none=>exact⟨_,rfl⟩
   | some q=>
    dsimp only;split
    ·exact⟨_,rfl⟩
    ·exact⟨_,rfl⟩
  ·rw [K5 h];have hki:k ≠ i:=λ e=>h (by rw [←e];exact hlt);exact iC ⟨k,by omega,hlt⟩
def aX(cs:Bx)(q:Nat × Int × Int):Int:=if q.2.2 < (cs.getD q.1 default).2 then q.2.2 else if (cs.getD q.1 default).1 < q.2.1 then q.2.1 - 1 else (cs.getD q.1 default).1
theorem BR{zs:List Tm3}{cs:Bx}{al bg:Int}{i:Nat}{q:Nat × Int × Int}(hz:∀ j,j < i->(1:Int)<=(zs.getD j default).1)(ha:0<=al)(hb:0<=bg)(h:cE zs cs al bg i=some q):(cs.getD q.1 default).1<=aX cs q/\aX cs q < (cs.getD q.1 default).2:=by
 obtain⟨h1,h2,h3⟩:=hU h;have ht:=hz q.1 h1;have d1:=Ms ha (show 0<=(zs.getD q.1 default).1 by omega);have d2:=Ms hb (show 0<=(zs.getD q.1 default).1 by omega);have e1:q.2.1=(gR (zs.getD q.1 default).1 (cs.getD q.1 default) al bg).1:=by rw [←h3]
 have e2:q.2.2=(gR (zs.getD q.1 default).1 (cs.getD q.1 default) al bg).2:=by rw [←h3]
 unfold gR at e1 e2;have e1':q.2.1=if (cs.getD q.1 default).1 < (cs.getD q.1 default).2 - bg / (zs.getD q.1 default).1 then (cs.getD q.1 default).2 - bg / (zs.getD q.1 default).1 else (cs.getD q.1 default).1:=e1
 have e2':q.2.2=if (cs.getD q.1 default).1+al / (zs.getD q.1 default).1 < (cs.getD q.1 default).2 then (cs.getD q.1 default).1+al / (zs.getD q.1 default).1 else (cs.getD q.1 default).2:=e2
 unfold aX;rw [e1',e2']
 repeat' split
 all_goals omega
theorem uC:∀ {zs:List Tm3}{cs:Bx},cs.length=zs.length->(∀ i:Nat,i < zs.length->(cs.getD i default).1=(cs.getD i default).2)->bf zs cs=ck zs cs
 | [],[],_,_=>rfl
 | [],_::_,h,_=>by simp at h
 | _::_,[],h,_=>by simp at h
 | z::zs,b::cs,h,he=>by
  have ih:=uC (zs:=zs) (cs:=cs) (by simpa using h) λ i hi=>he (i+1) (by simpa using hi);obtain⟨s1,s2⟩:=bt z b zs cs;have h0:b.1=b.2:=he 0 (by simp);rw [s1,s2,ih,h0]
theorem ir{zs:List Tm3}{cs:Bx}{g:Int}(h:cV zs cs g=false):bf zs cs<=g/\g<=ck zs cs:=by
 unfold cV cj at h;rw [Bool.or_eq_false_iff,Bool.or_eq_false_iff] at h;have h1:=of_decide_eq_false h.1.1;have h2:=of_decide_eq_false h.1.2;omega
theorem vH{zs:List Tm3}{cs:Bx}{g:Int}(hc:cU zs cs)(h:cV zs cs g=false)(hn:sP zs g cs=none):∃ k,k < zs.length/\(cs.getD k default).1 < (cs.getD k default).2:=by
 apply Classical.byContradiction;intro hno;obtain⟨h1,h2⟩:=ir h
 have he:=uC hc.len λ i hi=>by
  have:=(hc.at hi).2.1;apply Classical.byContradiction;intro hne;exact hno ⟨i,hi,by omega⟩
 unfold sP at hn;rw [if_pos %[0|8]] at hn;cases hn
def Ee(zs:List Tm3)(g:Int)(cs:Bx):Nat × Int:=match cE zs cs (g - bf zs cs) (ck zs cs - g) zs.length with
 | none=>(0,0)
 | some q=>(q.1,aX cs q)
theorem yi{zs:List Tm3}{g:Int}{cs:Bx}(hz:∀ z∈zs,(1:Int)<=z.1)(hc:cU zs cs)(h:cV zs cs g=false)(hn:sP zs g cs=none):∃ q,cE zs cs (g - bf zs cs) (ck zs cs - g) zs.length=some q/\Ee zs g cs=(q.1,aX cs q)/\q.1 < zs.length/\(cs.getD q.1 default).1<=aX cs q/\aX cs q < (cs.getD q.1 default).2:=by
 obtain⟨q,hq⟩:=iC (zs:=zs) (al:=g - bf zs cs) (bg:=ck zs cs - g) (vH hc h hn);obtain⟨h1,h2⟩:=ir h;have hp:=BR (λ j hj=>by rw [getD_eq_getElem?_getD,getElem?_eq_getElem hj];exact hz _ (getElem_mem hj)) %[0|8] %[0|8] hq;refine⟨q,hq,?_,(hU hq).1,hp⟩;unfold Ee;rw [hq]
def dZ(zs:List Tm3)(g:Int)(c:Bx)(s:List V)(more:List Bx):Prop:=(s=[.str "low"]/\g < bf zs c/\more=[])\/(s=[.str "high"]/\ck zs c < g/\more=[])\/(∃ d:Int,s=[.str "rest",.int d]/\2<=d/\(∀ n∈bZ zs c,d ∣ n)/\0 < (g - bf zs c) % d/\more=[])\/∃ (k:Nat) (a:Int),s=[.str "part",.int (k:Int),.int a]/\k < zs.length/\(c.getD k default).1<=a/\a < (c.getD k default).2/\cV zs c g=false/\more=[loC c k a,upC c k a]
def Rep(zs:List Tm3)(g:Int):List Bx->List (List V)->List Bx->Prop
 | st,[],st'=>st=st'
 | [],_::_,_=>False
 | c::st,s::p,st'=>∃ more,dZ zs g c s more/\cU zs c/\Rep zs g (more++st) p st'
theorem Rep.snoc{zs:List Tm3}{g:Int}{c:Bx}{s:List V}{more st1:List Bx}(hs:dZ zs g c s more)(hc:cU zs c):∀ {p:List (List V)}{st:List Bx},Rep zs g st p (c::st1)->Rep zs g st (p++[s]) (more++st1)
 | [],st,h=>by
  have e:st=c::st1:=by cases st<;>exact h
  subst e;exact⟨more,hs,hc,by show Rep zs g (more++st1) [] (more++st1);cases more++st1<;>rfl⟩
 | _::_,[],h=>h.elim
 | _::_,_::_,⟨m,h1,h2,h3⟩=>⟨m,h1,h2,Rep.snoc hs hc h3⟩
theorem w5{zs:List Tm3}{g:Int}{c:Bx}{s:List V}(h:zV zs c g=some s):dZ zs g c s []:=by
 unfold zV DI at h;split at h
 ·rename_i h1;cases h;exact .inl ⟨rfl,h1,rfl⟩
 split at h
 ·rename_i h1;cases h;exact .inr (.inl ⟨rfl,h1,rfl⟩)
 split at h
 ·rename_i h1;cases h;have:=LP (g - bf zs c) (show iZ (bZ zs c) ≠ 0 by omega);exact .inr (.inr (.inl ⟨_,rfl,by omega,(p9 (bZ zs c) 0).2,by omega,rfl⟩))
 ·cases h
structure HZ(zs:List Tm3)(g:Int)(pf:Bx->Int):Prop where
 one:∀ c,cU zs c->1<=pf c
 part:∀ c q,cU zs c->cV zs c g=false->sP zs g c=none->cE zs c (g - bf zs c) (ck zs c - g) zs.length=some q->pf (loC c q.1 (aX c q))+pf (upC c q.1 (aX c q))+1<=pf c
def iX(pf:Bx->Int):List Bx->Int
 | []=>0
 | c::st=>pf c+iX pf st
structure StI(zs:List Tm3)(g:Int)(pf:Bx->Int)(F:Bx)(most:Int)(st:List Bx)(looked:Int)(pp:List (List V)):Prop where
 ok:∀ c∈st,cU zs c
 pot:looked+iX pf st<=most
 len:(pp.length:Int)=looked
 rep:Rep zs g [F] pp st
theorem uf{zs:List Tm3}{g:Int}{pf:Bx->Int}(hp:HZ zs g pf):∀ {st:List Bx},(∀ c∈st,cU zs c)->0<=iX pf st/\(st.length:Int)<=iX pf st
 | [],_=>⟨Lp _,Lp _⟩
 | c::st,h=>by
  have ih:=uf hp (st:=st) λ d hd=>h d (KZ _ hd);have:=hp.one c (h c K1)
  show 0<=pf c+iX pf st/\((st.length+1:Nat):Int)<=pf c+iX pf st
  omega
theorem StI.step{zs:List Tm3}{g:Int}{pf:Bx->Int}{F c:Bx}{most looked:Int}{st:List Bx}{pp:List (List V)}(hz:∀ z∈zs,(1:Int)<=z.1)(hpf:HZ zs g pf)(h:StI zs g pf F most (c::st) looked pp):looked < most/\cU zs c/\(∀ s,zV zs c g=some s->StI zs g pf F most st (looked+1) (pp++[s]))/\(zV zs c g=none->(∀ xs,sP zs g c=some xs->InB c xs/\jd zs xs=g)/\(sP zs g c=none->∃ q,cE zs c (g - bf zs c) (ck zs c - g) zs.length=some q/\q.1 < zs.length/\pf (loC c q.1 (aX c q))+pf (upC c q.1 (aX c q))+1<=pf c/\StI zs g pf F most (loC c q.1 (aX c q)::upC c q.1 (aX c q)::st) (looked+1) (pp++[[.str "part",.int (q.1:Int),.int (aX c q)]]))):=by
 have hc:=h.ok c K1;have hst:∀ d∈st,cU zs d:=λ d hd=>h.ok d (KZ _ hd);have hv:=hpf.one c hc;have hp:=h.pot;have hn:=uf hpf hst;have hlen:=h.len;have ep:iX pf (c::st)=pf c+iX pf st:=rfl;rw [ep] at hp;have lsn:∀ s:List V,((pp++[s]).length:Int)=looked+1:=λ s=>by rw [K4,K9];omega
 refine⟨by omega,hc,λ s he=>?_,λ he=>⟨λ xs hx=>Fd hc hx,λ hno=>?_⟩⟩
 ·exact⟨hst,by omega,lsn s,Rep.snoc (w5 he) hc h.rep⟩
 ·have he':cV zs c g=false:=zy he;obtain⟨q,hq,hpf',hk,a1,a2⟩:=yi hz hc he' hno;obtain⟨o1,o2⟩:=hc.part hk a1 a2;have hpv:=hpf.part c q hc he' hno hq;have ep2:iX pf (loC c q.1 (aX c q)::upC c q.1 (aX c q)::st)=pf (loC c q.1 (aX c q))+(pf (upC c q.1 (aX c q))+iX pf st):=rfl;refine⟨q,hq,hk,hpv,λ d hd=>?_,by rw [ep2];omega,lsn _,Rep.snoc (more:=[loC c q.1 (aX c q),upC c q.1 (aX c q)]) (.inr (.inr (.inr ⟨q.1,aX c q,rfl,hk,a1,a2,he',rfl⟩))) hc h.rep⟩
  rcases Ls.mp hd with rfl|hd
  ·exact o2
  ·rcases Ls.mp hd with rfl|hd
   ·exact o1
   ·exact hst d hd
theorem StI.done{zs:List Tm3}{g:Int}{pf:Bx->Int}{F:Bx}{most looked:Int}{pp:List (List V)}(h:StI zs g pf F most [] looked pp):Rep zs g [F] pp []/\(pp.length:Int)<=most:=by
 have h1:=h.pot;have h2:=h.len;have e:iX pf []=0:=rfl;rw [e] at h1;exact⟨h.rep,by omega⟩
def lH:List Tm3->Int
 | []=>0
 | z::zs=>z.1 * (z.2.2 - z.2.1)+lH zs
def tI:List Tm3->Prop
 | []=>True
 | z::zs=>lH zs < z.1/\tI zs
def opn:Bx->Nat
 | []=>0
 | b::c=>(if b.1 < b.2 then 1 else 0)+opn c
def sI:List Tm3->Bx->Int
 | z::zs,b::c=>if b.1 < b.2 then z.1 * (b.2 - b.1) else sI zs c
 | _,_=>0
def dt:Bx->Nat
 | []=>0
 | b::c=>if b.1 < b.2 then 0 else dt c+1
def InZ:List Tm3->Bx->Prop
 | [],[]=>True
 | z::zs,b::c=>(z.2.1<=b.1/\b.1<=b.2/\b.2<=z.2.2)/\InZ zs c
 | _,_=>False
theorem cU.inz:∀ {zs:List Tm3}{c:Bx},cU zs c->InZ zs c
 | [],[],_=>trivial
 | [],_::_,h=>by have:=h.len;simp at this
 | _::_,[],h=>by have:=h.len;simp at this
 | z::zs,b::c,h=>⟨h.all (z,b) (by rw [MW];exact K1),cU.inz ⟨by have:=h.len;simpa using this,λ p hp=>h.all p (by rw [MW];exact KZ _ hp)⟩⟩
theorem Ag:∀ {zs:List Tm3}{c:Bx},InZ zs c->(∀ z∈zs,(1:Int)<=z.1)->0<=ck zs c - bf zs c/\ck zs c - bf zs c<=lH zs
 | [],[],_,_=>⟨Lp _,Lp _⟩
 | [],_::_,h,_=>h.elim
 | _::_,[],h,_=>h.elim
 | z::zs,b::c,h,hz=>by
  have ih:=Ag h.2 λ y hy=>hz y (KZ _ hy);have h1:=hz z K1;obtain⟨s1,s2⟩:=bt z b zs c;obtain⟨⟨a1,a2,a3⟩,_⟩:=h;have m1:=LH (show 0<=z.1 by omega) (show 0<=b.2 - b.1 by omega);have m2:=Lc (show b.2 - b.1<=z.2.2 - z.2.1 by omega) (show 0<=z.1 by omega);rw [MV] at m1 m2;rw [s1,s2]
  show _/\_<=z.1 * (z.2.2 - z.2.1)+lH zs
  omega
theorem pH:∀ {zs:List Tm3}{c:Bx},InZ zs c->(∀ z∈zs,(1:Int)<=z.1)->tI zs->0 < opn c->dt c < zs.length/\(c.getD (dt c) default).1 < (c.getD (dt c) default).2/\sI zs c=(zs.getD (dt c) default).1 * ((c.getD (dt c) default).2 - (c.getD (dt c) default).1)/\∃ S,0<=S/\S < (zs.getD (dt c) default).1/\ck zs c - bf zs c=(zs.getD (dt c) default).1 * ((c.getD (dt c) default).2 - (c.getD (dt c) default).1)+S
 | [],[],_,_,_,h=>absurd h ⋯
 | [],_::_,h,_,_,_=>h.elim
 | _::_,[],h,_,_,_=>h.elim
 | z::zs,b::c,h,hz,hf,ho=>by
  obtain⟨s1,s2⟩:=bt z b zs c;have hz':∀ y∈zs,(1:Int)<=y.1:=λ y hy=>hz y (KZ _ hy)
  by_cases hb:b.1 < b.2
  ·have e1:dt (b::c)=0:=K7 hb;have e2:sI (z::zs) (b::c)=z.1 * (b.2 - b.1):=K7 hb;rw [e1,e2];obtain⟨p1,p2⟩:=Ag h.2 hz';have hf1:lH zs < z.1:=hf.1;refine⟨by simp,hb,rfl,ck zs c - bf zs c,p1,?_,?_⟩
   ·show _ < z.1;omega
   ·show ck (z::zs) (b::c) - bf (z::zs) (b::c)=z.1 * (b.2 - b.1)+_
    rw [s1,s2,MV];omega
  ·have e1:dt (b::c)=dt c+1:=K5 hb;have e2:sI (z::zs) (b::c)=sI zs c:=K5 hb;have e3:opn (b::c)=0+opn c:=by show (if b.1 < b.2 then 1 else 0)+opn c=_;rw [K5 hb]
   have ih:=pH h.2 hz' hf.2 %[0|8];have hbb:b.1=b.2:=by have:=h.1.2.1;omega
   rw [e1,e2,s1,s2,hbb];obtain⟨i1,i2,i3,S,i4,i5,i6⟩:=ih;exact⟨by simpa using i1,i2,i3,S,i4,i5,by show _=(zs.getD (dt c) default).1 * ((c.getD (dt c) default).2 - (c.getD (dt c) default).1)+S;omega⟩
theorem lU:∀ {c:Bx}{j:Nat},(c.getD j default).1 < (c.getD j default).2->dt c<=j/\0 < opn c
 | [],j,h=>by
  have h':(0:Int) < 0:=h;omega
 | b::c,0,h=>by
  have h':b.1 < b.2:=h;have e1:dt (b::c)=0:=K7 h';have e3:opn (b::c)=1+opn c:=by show (if b.1 < b.2 then 1 else 0)+opn c=_;rw [K7 h']
  omega
 | b::c,j+1,h=>by
  have ih:=lU (c:=c) (j:=j) h;have e3:opn (b::c)=(if b.1 < b.2 then 1 else 0)+opn c:=rfl
  by_cases hb:b.1 < b.2
  ·have e1:dt (b::c)=0:=K7 hb;omega
  ·have e1:dt (b::c)=dt c+1:=K5 hb;omega
theorem jW:∀ {zs:List Tm3}{c:Bx}{k:Nat}{b:Int × Int},c.length=zs.length->k < c.length->bf zs (c.set k b)=bf zs c+(zs.getD k default).1 * (b.1 - (c.getD k default).1)/\ck zs (c.set k b)=ck zs c+(zs.getD k default).1 * (b.2 - (c.getD k default).2)
 | _,[],_,_,_,h=>by simp at h
 | [],_::_,_,_,h,_=>by simp at h
 | z::zs,d::c,0,b,_,_=>by
  obtain⟨s1,s2⟩:=bt z d zs c;obtain⟨r1,r2⟩:=bt z b zs c
  show bf (z::zs) (b::c)=bf (z::zs) (d::c)+z.1 * (b.1 - d.1)/\ck (z::zs) (b::c)=ck (z::zs) (d::c)+z.1 * (b.2 - d.2)
  rw [s1,s2,r1,r2,MV,MV];omega
 | z::zs,d::c,k+1,b,hl,hk=>by
  obtain⟨i1,i2⟩:=jW (zs:=zs) (c:=c) (k:=k) (b:=b) (by simpa using hl) (by simpa using hk);obtain⟨s1,s2⟩:=bt z d zs c;obtain⟨r1,r2⟩:=bt z d zs (c.set k b)
  show bf (z::zs) (d::c.set k b)=bf (z::zs) (d::c)+(zs.getD k default).1 * (b.1 - (c.getD k default).1)/\ck (z::zs) (d::c.set k b)=ck (z::zs) (d::c)+(zs.getD k default).1 * (b.2 - (c.getD k default).2)
  rw [s1,s2,r1,r2,i1,i2];omega
theorem nX:∀ {c:Bx}{k:Nat}{b:Int × Int},k < c.length->(c.getD k default).1 < (c.getD k default).2->opn (c.set k b)+1=opn c+(if b.1 < b.2 then 1 else 0)
 | [],_,_,h,_=>by simp at h
 | d::c,0,b,_,h=>by
  have h':d.1 < d.2:=h
  show (if b.1 < b.2 then 1 else 0)+opn c+1=(if d.1 < d.2 then 1 else 0)+opn c+_
  rw [K7 h'];omega
 | d::c,k+1,b,hk,h=>by
  have ih:=nX (c:=c) (k:=k) (b:=b) (by simpa using hk) h
  show (if d.1 < d.2 then 1 else 0)+opn (c.set k b)+1=(if d.1 < d.2 then 1 else 0)+opn c+_
  omega
theorem pI:∀ {zs:List Tm3}{c:Bx}{b:Int × Int},c.length=zs.length->0 < opn c->b.1 < b.2->sI zs (c.set (dt c) b)=(zs.getD (dt c) default).1 * (b.2 - b.1)
 | _,[],_,_,h,_=>absurd h ⋯
 | [],_::_,_,h,_,_=>by simp at h
 | z::zs,d::c,b,hl,ho,hb=>by
  by_cases hd:d.1 < d.2
  ·have e1:dt (d::c)=0:=K7 hd;rw [e1];exact K7 hb
  ·have e1:dt (d::c)=dt c+1:=K5 hd;have e3:opn (d::c)=0+opn c:=by show (if d.1 < d.2 then 1 else 0)+opn c=_;rw [K5 hd]
   rw [e1]
   show (if d.1 < d.2 then _ else sI zs (c.set (dt c) b))=_
   rw [K5 hd,pI (by simpa using hl) %[0|8] hb];rfl
def wdF(q:Int × Int):Int:=q.2 - q.1
theorem qk{zs:List Tm3}{cs:Bx}{al bg:Int}:∀ {i:Nat}{q:Nat × Int × Int},cE zs cs al bg i=some q->∀ j,j < i->(cs.getD j default).1 < (cs.getD j default).2->wdF q.2<=wdF (gR (zs.getD j default).1 (cs.getD j default) al bg)/\(q.1<=j\/wdF q.2 < wdF (gR (zs.getD j default).1 (cs.getD j default) al bg))
 | 0,q,h,_,hj,_=>by omega
 | i+1,q,h,j,hj,ho=>by
  have ih:=λ q h=>qk (zs:=zs) (cs:=cs) (al:=al) (bg:=bg) (i:=i) (q:=q) h;have bo:=λ q h=>hU (zs:=zs) (cs:=cs) (al:=al) (bg:=bg) (i:=i) (q:=q) h;unfold cE at h;split at h
  ·rename_i hlt;split at h
   ·rename_i hn;cases h
    by_cases e:j=i
    ·subst e;exact⟨Lp _,.inl (K3 _)⟩
    ·obtain⟨q',hq'⟩:=iC (zs:=zs) (al:=al) (bg:=bg) (i:=i) ⟨j,by omega,ho⟩;rw [hn] at hq';cases hq'
   ·rename_i q' hq';split at h
    ·rename_i hl2;cases h
     by_cases e:j=i
     ·subst e;exact⟨Lp _,.inl (K3 _)⟩
     ·have:=ih _ hq' j %[0|8] ho;have hl3:wdF (gR (zs.getD i default).1 (cs.getD i default) al bg) < wdF q'.2:=hl2
      show wdF (gR (zs.getD i default).1 (cs.getD i default) al bg)<=_/\(_\/wdF (gR (zs.getD i default).1 (cs.getD i default) al bg) < _)
      omega
    ·rename_i hl2;cases h
     by_cases e:j=i
     ·subst e;have hl3:¬ wdF (gR (zs.getD j default).1 (cs.getD j default) al bg) < wdF q.2:=hl2;have:=(bo _ hq').1;exact⟨by omega,.inl %[0|8]⟩
     ·exact ih _ hq' j %[0|8] ho
  ·rename_i hlt
   by_cases e:j=i
   ·subst e;exact absurd ho hlt
   ·exact ih _ h j %[0|8] ho
def pfF(zs:List Tm3)(g:Int)(c:Bx):Int:=if cV zs c g=true\/opn c=0 then 1 else 4 * (opn c:Int)+(if sI zs c<=g - bf zs c then -1 else 1)
theorem o6{zs:List Tm3}{g:Int}{c:Bx}(h:cV zs c g=true):pfF zs g c=1:=K7 (.inl h)
theorem xy{zs:List Tm3}{g:Int}{c:Bx}:1<=pfF zs g c/\pfF zs g c<=4 * (opn c:Int)+1:=by
 unfold pfF;split
 ·omega
 ·rename_i h;have:opn c ≠ 0:=λ e=>h (.inr e)
  split<;>omega
theorem yc{zs:List Tm3}{g:Int}{c:Bx}(h:sI zs c<=g - bf zs c)(ho:0 < opn c):pfF zs g c<=4 * (opn c:Int) - 1:=by
 unfold pfF;rw [if_pos h]
 split<;>omega
theorem wZ{zs:List Tm3}{g:Int}{c:Bx}(h:g < bf zs c):cV zs c g=true:=by unfold cV cj;rw [decide_eq_true h];rfl
theorem rW{zs:List Tm3}{g:Int}{c:Bx}(h:ck zs c < g):cV zs c g=true:=by unfold cV cj;rw [decide_eq_true h,Bool.or_true];rfl
theorem g6(x:Int){t:Int}(ht:1<=t):t * (x / t)<=x/\x < t * (x / t)+t:=⟨Int.mul_ediv_self_le %[0|8],Int.lt_mul_ediv_self_add %[0|8]⟩
theorem Iw{t al bg S:Int}{b:Int × Int}(t1:1<=t)(hb:b.1 < b.2)(h0:0<=al)(h1:0<=bg)(e:al+bg=t * (b.2 - b.1)+S)(S1:S < t):wdF (gR t b al bg)<=0:=by
 obtain⟨d1,_⟩:=g6 al t1;obtain⟨d2,_⟩:=g6 bg t1;have a0:=Ms h0 (show 0<=t by omega);have b0:=Ms h1 (show 0<=t by omega)
 show (if b.1+al / t < b.2 then b.1+al / t else b.2) - (if b.1 < b.2 - bg / t then b.2 - bg / t else b.1)<=0
 generalize al / t=a at *;generalize bg / t=bb at *
 have hab:a+bb < b.2 - b.1+1:=by
  refine Int.lt_of_mul_lt_mul_left (a:=t) ?_ %[0|8];rw [L9,L9,Mh];omega
 split<;>split<;>omega
theorem EC{zs:List Tm3}{g:Int}{c:Bx}{k:Nat}{x:Int}(hl:c.length=zs.length)(hk:k < c.length)(t1:1<=(zs.getD k default).1)(hx:(g - bf zs c) / (zs.getD k default).1<=x - (c.getD k default).1):cV zs (upC c k x) g=true:=by
 refine wZ ?_;unfold upC;rw [(jW hl hk).1]
 show g < bf zs c+(zs.getD k default).1 * (x+1 - (c.getD k default).1)
 obtain⟨_,d⟩:=g6 (g - bf zs c) t1;have m:=Lc hx (show 0<=(zs.getD k default).1 by omega);rw [show x+1 - (c.getD k default).1=x - (c.getD k default).1+1 by omega,L9,Mh];omega
theorem GP{zs:List Tm3}{g:Int}{c:Bx}{k:Nat}{x:Int}(hl:c.length=zs.length)(hk:k < c.length)(t1:1<=(zs.getD k default).1)(hx:(ck zs c - g) / (zs.getD k default).1+1<=(c.getD k default).2 - x):cV zs (loC c k x) g=true:=by
 refine rW ?_;unfold loC;rw [(jW hl hk).2]
 show ck zs c+(zs.getD k default).1 * (x - (c.getD k default).2) < g
 obtain⟨_,d⟩:=g6 (ck zs c - g) t1;have m:=Lc hx (show 0<=(zs.getD k default).1 by omega);rw [L9,Mh] at m;rw [show x - (c.getD k default).2=-((c.getD k default).2 - x) by omega,Int.mul_neg];omega
theorem BI{zs:List Tm3}{g:Int}{c:Bx}{q:Nat × Int × Int}(hz:∀ z∈zs,(1:Int)<=z.1)(hf:tI zs)(hc:cU zs c)(he:cV zs c g=false)(hq:cE zs c (g - bf zs c) (ck zs c - g) zs.length=some q):pfF zs g (loC c q.1 (aX c q))+pfF zs g (upC c q.1 (aX c q))+1<=pfF zs g c:=by
 obtain⟨g1,g2⟩:=ir he;obtain⟨k1,k2,k3⟩:=hU hq;have hlen:=hc.len;have kc:q.1 < c.length:=by omega
 obtain⟨tf,op⟩:=lU k2;obtain⟨w1,w2,w3,S,S0,S1,w4⟩:=pH hc.inz hz hf op;obtain⟨m1,m2⟩:=qk hq (dt c) w1 w2
 have ht:∀ j,j < zs.length->1<=(zs.getD j default).1:=λ j hj=>by
  rw [Lb,KU hj];exact hz _ (Mm hj)
 have pfc:pfF zs g c=4 * (opn c:Int)+(if sI zs c<=g - bf zs c then -1 else 1):=by
  unfold pfF;exact if_neg (by rw [he];intro h;rcases h with h|h;cases h;omega)
 have wtop:=Iw (ht _ w1) w2 (show 0<=g - bf zs c by omega) (show 0<=ck zs c - g by omega) (S:=S) %[0|8] S1;have t1:=ht _ k1;have a0:=Ms (show 0<=g - bf zs c by omega) (show 0<=(zs.getD q.1 default).1 by omega);have b0:=Ms (show 0<=ck zs c - g by omega) (show 0<=(zs.getD q.1 default).1 by omega);have e1:q.2.1=if (c.getD q.1 default).1 < (c.getD q.1 default).2 - (ck zs c - g) / (zs.getD q.1 default).1 then (c.getD q.1 default).2 - (ck zs c - g) / (zs.getD q.1 default).1 else (c.getD q.1 default).1:=by rw [k3];rfl
 have e2:q.2.2=if (c.getD q.1 default).1+(g - bf zs c) / (zs.getD q.1 default).1 < (c.getD q.1 default).2 then (c.getD q.1 default).1+(g - bf zs c) / (zs.getD q.1 default).1 else (c.getD q.1 default).2:=by rw [k3];rfl
 have ew:wdF q.2=q.2.2 - q.2.1:=rfl;have ue:=λ x=>EC (zs:=zs) (g:=g) (c:=c) (k:=q.1) (x:=x) hlen kc t1;have le:=λ x=>GP (zs:=zs) (g:=g) (c:=c) (k:=q.1) (x:=x) hlen kc t1
 by_cases hn:wdF q.2 < 0
 ·-- no number is left: both parts are cV
  have hlt:q.2.2 < (c.getD q.1 default).2:=by rw [e2];rw [e1,e2] at ew;split<;>(split at ew<;>split at ew<;>omega)
  have ek:aX c q=q.2.2:=K7 hlt
  have h22:q.2.2=(c.getD q.1 default).1+(g - bf zs c) / (zs.getD q.1 default).1:=by
   rw [e2] at hlt ⊢;split at hlt
   ·rename_i h;rw [K7 h]
   ·omega
  have h21:(ck zs c - g) / (zs.getD q.1 default).1+1<=(c.getD q.1 default).2 - q.2.2:=by
   rw [ew,e1] at hn
   split at hn<;>omega
  rw [ek,o6 (ue _ %[0|8]),o6 (le _ h21),pfc]
  split<;>omega
 ·have hqt:q.1=dt c:=by
   rcases m2 with h|h
   ·omega
   ·omega
  have hw0:q.2.2=q.2.1:=by omega
  by_cases hlt:q.2.2 < (c.getD q.1 default).2
  ·have ek:aX c q=q.2.2:=K7 hlt
   have h22:q.2.2=(c.getD q.1 default).1+(g - bf zs c) / (zs.getD q.1 default).1:=by
    rw [e2] at hlt ⊢;split at hlt
    ·rename_i h;rw [K7 h]
    ·omega
   have hnt:¬ sI zs c<=g - bf zs c:=by
    obtain⟨_,d⟩:=g6 (g - bf zs c) t1;rw [w3,←hqt];have m:=Lc (show (g - bf zs c) / (zs.getD q.1 default).1+1<=(c.getD q.1 default).2 - (c.getD q.1 default).1 by omega) (show 0<=(zs.getD q.1 default).1 by omega);rw [L9,Mh] at m;omega
   rw [ek,o6 (ue _ %[0|8]),pfc,K5 hnt];have os:=nX (b:=((c.getD q.1 default).1,q.2.2)) kc k2;have el:loC c q.1 q.2.2=c.set q.1 ((c.getD q.1 default).1,q.2.2):=rfl
   by_cases ho:(c.getD q.1 default).1 < q.2.2
   ·rw [K7 ho] at os
    have tt:sI zs (loC c q.1 q.2.2)<=g - bf zs (loC c q.1 q.2.2):=by
     have s:=(jW (b:=((c.getD q.1 default).1,q.2.2)) hlen kc).1;rw [el,s];rw [hqt] at ho ⊢;rw [pI hlen op ho]
     show (zs.getD (dt c) default).1 * (q.2.2 - (c.getD (dt c) default).1)<=g - (bf zs c+(zs.getD (dt c) default).1 * ((c.getD (dt c) default).1 - (c.getD (dt c) default).1))
     rw [Int.sub_self,LL,L7];rw [hqt] at h22;rw [h22,show (c.getD (dt c) default).1+(g - bf zs c) / (zs.getD (dt c) default).1 - (c.getD (dt c) default).1=(g - bf zs c) / (zs.getD (dt c) default).1 by omega];exact(g6 _ (ht _ w1)).1
    have:=yc tt (by rw [el];omega);rw [el] at this ⊢;omega
   ·rw [K5 ho] at os;have:=(xy (zs:=zs) (g:=g) (c:=loC c q.1 q.2.2)).2;rw [el] at this ⊢;omega
  ·have h22:q.2.2=(c.getD q.1 default).2:=by
    rw [e2] at hlt ⊢;split at hlt
    ·rename_i h;rw [K7 h];omega
    ·rename_i h;rw [K5 h]
   have ek:aX c q=(c.getD q.1 default).2 - 1:=by
    show (if q.2.2 < (c.getD q.1 default).2 then q.2.2 else if (c.getD q.1 default).1 < q.2.1 then q.2.1 - 1 else (c.getD q.1 default).1)=_
    rw [K5 hlt,K7 %[0|8]];omega
   have hb0:(ck zs c - g) / (zs.getD q.1 default).1=0:=by
    rw [←hw0,h22] at e1
    split at e1<;>omega
   rw [ek,o6 (le _ %[0|8]),pfc];have os:=nX (b:=((c.getD q.1 default).2 - 1+1,(c.getD q.1 default).2)) kc k2;have el:upC c q.1 ((c.getD q.1 default).2 - 1)=c.set q.1 ((c.getD q.1 default).2 - 1+1,(c.getD q.1 default).2):=rfl;rw [K5 (show ¬ (c.getD q.1 default).2 - 1+1 < (c.getD q.1 default).2 by omega)] at os;have:=(xy (zs:=zs) (g:=g) (c:=upC c q.1 ((c.getD q.1 default).2 - 1))).2;rw [el] at this ⊢
   split<;>omega
def dU:List (Int × Int)->Int->Int
 | [],_=>0
 | z::l,t=>(if z.1=t then z.2 else 0)+dU l t
def zW(l:List (Int × Int)):Int:=(l.map λ z=>z.1 * z.2).sum
def iY(ks:List Int)(f:Int->Int):Int:=(ks.map λ t=>t * f t).sum
theorem bu(k:Int)(ks:List Int)(f:Int->Int):iY (k::ks) f=k * f k+iY ks f:=by unfold iY;rw [map_cons,sum_cons]
theorem fB:∀ {ks:List Int}{f:Int->Int},(∀ t∈ks,f t=0)->iY ks f=0
 | [],_,_=>rfl
 | k::ks,f,h=>by rw [bu,h k K1,fB λ t ht=>h t (KZ _ ht)];omega
theorem kK:∀ (ks:List Int) (f g:Int->Int),iY ks (λ t=>f t+g t)=iY ks f+iY ks g
 | [],_,_=>rfl
 | k::ks,f,g=>by rw [bu,bu,bu,kK ks f g,L9];omega
theorem ju:∀ {ks:List Int}{f g:Int->Int},(∀ t∈ks,f t=g t)->iY ks f=iY ks g
 | [],_,_,_=>rfl
 | k::ks,f,g,h=>by rw [bu,bu,h k K1,ju λ t ht=>h t (KZ _ ht)]
theorem kJ:∀ {ks:List Int}{a c:Int},ks.Nodup->(a=0\/a∈ks)->iY ks (λ t=>if a=t then c else 0)=a * c
 | [],a,c,_,h=>by
  rcases h with rfl|h
  ·rw [Int.zero_mul];rfl
  ·cases h
 | k::ks,a,c,hn,h=>by
  rw [bu];obtain⟨hk,hn'⟩:=LD.mp hn
  by_cases e:a=k
  ·subst e;rw [K7 rfl,fB λ t ht=>K5 λ e=>hk (by rw [e];exact ht)];omega
  ·rw [K5 e,kJ hn' (h.imp id λ hm=>(Ls.mp hm).resolve_left e),LL];omega
theorem AN{ks:List Int}(hn:ks.Nodup):∀ {l:List (Int × Int)},(∀ z∈l,z.1=0\/z.1∈ks)->iY ks (dU l)=zW l
 | [],_=>fB λ _ _=>rfl
 | z::l,h=>by
  have ih:=AN hn (l:=l) λ y hy=>h y (mem_cons_of_mem _ hy);have e:dU (z::l)=λ t=>(if z.1=t then z.2 else 0)+dU l t:=rfl;rw [e,kK,kJ hn (h z mem_cons_self),ih];unfold zW;rw [map_cons,sum_cons]
def ag(p:Int):Int:=(p.natAbs:Int)
def loP(z:Int × Int):Int:=if 0 < z.1 then 0 else 1 - z.2
def hiP(z:Int × Int):Int:=if 0 < z.1 then z.2 - 1 else 0
def cT(P:List (Int × Int)):Int->Int:=dU (P.map λ z=>(ag z.1,loP z))
def bD(P:List (Int × Int)):Int->Int:=dU (P.map λ z=>(ag z.1,hiP z))
def fK(P:List (Int × Int)):Int->Int:=dU (P.map λ z=>(ag z.1,z.2 - 1))
theorem gN:∀ (P:List (Int × Int)) (t:Int),bD P t - cT P t=fK P t
 | [],_=>rfl
 | z::P,t=>by
  have ih:=gN P t;unfold bD cT fK at ih ⊢;rw [map_cons,map_cons,map_cons]
  show (if ag z.1=t then hiP z else 0)+_ - ((if ag z.1=t then loP z else 0)+_)=(if ag z.1=t then z.2 - 1 else 0)+_
  by_cases e:ag z.1=t
  ·rw [K7 e,K7 e,K7 e];have e1:loP z=(if 0 < z.1 then 0 else 1 - z.2):=rfl;have e2:hiP z=(if 0 < z.1 then z.2 - 1 else 0):=rfl;rw [e1,e2]
   split<;>omega
  ·rw [K5 e,K5 e,K5 e];omega
def sQ:List (Int × Int)->List Int->Int
 | z::P,y::ys=>z.1 * y+sQ P ys
 | _,_=>0
def InP:List (Int × Int)->List Int->Prop
 | [],[]=>True
 | z::P,y::ys=>(0<=y/\y < z.2)/\InP P ys
 | _,_=>False
def jR:List (Int × Int)->List Int->List (Int × Int)
 | z::P,y::ys=>(ag z.1,if 0 < z.1 then y else 0 - y)::jR P ys
 | _,_=>[]
theorem iE:∀ {P:List (Int × Int)}{ys:List Int},InP P ys->∀ t,cT P t<=dU (jR P ys) t/\dU (jR P ys) t<=bD P t
 | [],[],_,_=>⟨Lp _,Lp _⟩
 | [],_::_,h,_=>h.elim
 | _::_,[],h,_=>h.elim
 | z::P,y::ys,h,t=>by
  have ih:=iE h.2 t;unfold cT bD at ih ⊢;rw [map_cons,map_cons]
  show (if ag z.1=t then loP z else 0)+_<=(if ag z.1=t then (if 0 < z.1 then y else 0 - y) else 0)+dU (jR P ys) t/\(if ag z.1=t then (if 0 < z.1 then y else 0 - y) else 0)+dU (jR P ys) t<=(if ag z.1=t then hiP z else 0)+_
  have:=h.1
  by_cases e:ag z.1=t
  ·rw [K7 e,K7 e,K7 e];have e1:loP z=(if 0 < z.1 then 0 else 1 - z.2):=rfl;have e2:hiP z=(if 0 < z.1 then z.2 - 1 else 0):=rfl;rw [e1,e2]
   split<;>omega
  ·rw [K5 e,K5 e,K5 e];omega
theorem pK:∀ {P:List (Int × Int)}{ys:List Int},InP P ys->zW (jR P ys)=sQ P ys
 | [],[],_=>rfl
 | [],_::_,h=>h.elim
 | _::_,[],h=>h.elim
 | z::P,y::ys,h=>by
  have ih:=pK h.2;unfold zW at ih ⊢
  show (((ag z.1,if 0 < z.1 then y else 0 - y)::jR P ys).map λ z=>z.1 * z.2).sum=z.1 * y+sQ P ys
  rw [LG,NN,ih];congr 1
  show ag z.1 * (if 0 < z.1 then y else 0 - y)=z.1 * y
  unfold ag;split
  ·rw [show ((z.1.natAbs:Nat):Int)=z.1 by omega]
  ·rw [show ((z.1.natAbs:Nat):Int)=-z.1 by omega,Int.zero_sub,Int.neg_mul_neg]
theorem lV{ks:List Int}:∀ {P:List (Int × Int)}{ys:List Int},(∀ z∈P,ag z.1=0\/ag z.1∈ks)->∀ z∈jR P ys,z.1=0\/z.1∈ks
 | [],_,_,_,h=>by cases h
 | _::_,[],_,_,h=>by cases h
 | z::P,y::ys,hk,q,hq=>by
  rcases Ls.mp hq with rfl|hq
  ·exact hk z K1
  ·exact lV (λ x hx=>hk x (KZ _ hx)) q hq
def af(ks:List Int)(P:List (Int × Int)):List Tm3:=ks.map λ t=>(t,cT P t,bD P t)
theorem pD(P:List (Int × Int))(f:Int->Int):∀ ks:List Int,jd (af ks P) (ks.map f)=iY ks f
 | []=>rfl
 | k::ks=>by
  rw [bu,←pD P f ks];rfl
theorem uY{P:List (Int × Int)}{f:Int->Int}(h:∀ t,cT P t<=f t/\f t<=bD P t):∀ ks:List Int,InB ((af ks P).map λ z=>z.2) (ks.map f)
 | []=>trivial
 | k::ks=>⟨h k,uY h ks⟩
theorem wX{ks:List Int}{P:List (Int × Int)}{ys:List Int}{g:Int}(hn:ks.Nodup)(hk:∀ z∈P,ag z.1=0\/ag z.1∈ks)(hy:InP P ys)(hg:sQ P ys=g):∃ xs,InB ((af ks P).map λ z=>z.2) xs/\jd (af ks P) xs=g:=
 ⟨ks.map (dU (jR P ys)),uY (iE hy) ks,by rw [pD,AN hn (lV hk),pK hy,hg]⟩
def tkF(z:Int × Int)(L:Int->Int):Int:=if L (ag z.1) < z.2 - 1 then L (ag z.1) else z.2 - 1
def qG(L:Int->Int)(a v:Int):Int->Int:=λ t=>if t=a then v else L t
def eU:(Int->Int)->List (Int × Int)->List Int
 | _,[]=>[]
 | L,z::P=>(if 0<=z.1 then tkF z L else z.2 - 1 - tkF z L)::eU (qG L (ag z.1) (L (ag z.1) - tkF z L)) P
theorem eJ(z:Int × Int)(P:List (Int × Int))(t:Int):fK (z::P) t=(if ag z.1=t then z.2 - 1 else 0)+fK P t:=rfl
theorem pq:∀ {P:List (Int × Int)},(∀ z∈P,(1:Int)<=z.2)->∀ t,0<=fK P t
 | [],_,_=>Lp _
 | z::P,h,t=>by
  have ih:=pq (P:=P) (λ y hy=>h y (KZ _ hy)) t;have:=h z K1;rw [eJ]
  split<;>omega
theorem mw{z:Int × Int}{P:List (Int × Int)}{L:Int->Int}(h1:1<=z.2)(hP:∀ y∈P,(1:Int)<=y.2)(h:∀ t,0<=L t/\L t<=fK (z::P) t):(0<=tkF z L/\tkF z L<=z.2 - 1)/\∀ t,0<=qG L (ag z.1) (L (ag z.1) - tkF z L) t/\qG L (ag z.1) (L (ag z.1) - tkF z L) t<=fK P t:=by
 have ha:=h (ag z.1);rw [eJ,if_pos rfl] at ha;have hc:=pq hP (ag z.1);refine⟨by unfold tkF;split<;>omega,λ t=>?_⟩;unfold qG
 by_cases e:t=ag z.1
 ·rw [if_pos e,e];unfold tkF
  split<;>omega
 ·rw [K5 e];have:=h t;rw [eJ,K5 (λ q=>e q.symm)] at this;omega
theorem u5:∀ {P:List (Int × Int)}{L:Int->Int},(∀ y∈P,(1:Int)<=y.2)->(∀ t,0<=L t/\L t<=fK P t)->InP P (eU L P)
 | [],_,_,_=>trivial
 | z::P,L,h1,h=>by
  have hP:∀ y∈P,(1:Int)<=y.2:=λ y hy=>h1 y (KZ _ hy);obtain⟨a,b⟩:=mw (h1 z K1) hP h;refine⟨?_,u5 hP b⟩
  show 0<=(if 0<=z.1 then tkF z L else z.2 - 1 - tkF z L)/\(if 0<=z.1 then tkF z L else z.2 - 1 - tkF z L) < z.2
  split<;>omega
theorem qd{ks:List Int}(hn:ks.Nodup):∀ {P:List (Int × Int)}{L:Int->Int},(∀ y∈P,(1:Int)<=y.2)->(∀ z∈P,ag z.1=0\/ag z.1∈ks)->(∀ t,0<=L t/\L t<=fK P t)->sQ P (eU L P)=zW (P.map λ z=>(ag z.1,loP z))+iY ks L
 | [],L,_,_,h=>by
  rw [fB λ t _=>by have:=h t;have e:fK [] t=0:=rfl;omega];rfl
 | z::P,L,h1,hk,h=>by
  have hP:∀ y∈P,(1:Int)<=y.2:=λ y hy=>h1 y (KZ _ hy);obtain⟨a,b⟩:=mw (h1 z K1) hP h;have ih:=qd hn hP (λ y hy=>hk y (KZ _ hy)) b
  have hL:L=λ t=>qG L (ag z.1) (L (ag z.1) - tkF z L) t+(if ag z.1=t then tkF z L else 0):=funext λ t=>by
   unfold qG
   by_cases e:t=ag z.1
   ·rw [K7 e,K7 e.symm,e];omega
   ·rw [K5 e,K5 (λ q=>e q.symm)];omega
  have hkS:iY ks L=iY ks (qG L (ag z.1) (L (ag z.1) - tkF z L))+ag z.1 * tkF z L:=by
   conv=>lhs;rw [hL]
   rw [kK,kJ hn (hk z K1)]
  show z.1 * (if 0<=z.1 then tkF z L else z.2 - 1 - tkF z L)+sQ P (eU (qG L (ag z.1) (L (ag z.1) - tkF z L)) P)=zW ((ag z.1,loP z)::P.map λ z=>(ag z.1,loP z))+iY ks L
  rw [ih,hkS];unfold zW;rw [map_cons,sum_cons]
  have key:z.1 * (if 0<=z.1 then tkF z L else z.2 - 1 - tkF z L)=ag z.1 * loP z+ag z.1 * tkF z L:=by
   have e1:loP z=(if 0 < z.1 then 0 else 1 - z.2):=rfl;rw [e1];unfold ag
   rcases Int.lt_trichotomy z.1 0 with h|h|h
   ·rw [K5 %[0|8],K5 %[0|8],show ((z.1.natAbs:Nat):Int)=-z.1 by omega,←L9,show 1 - z.2+tkF z L=-(z.2 - 1 - tkF z L) by omega,Int.neg_mul_neg]
   ·rw [h];simp
   ·rw [K7 %[0|8],K7 h,show ((z.1.natAbs:Nat):Int)=z.1 by omega,LL,LF]
  rw [key];dsimp only;omega
def cn:List Tm3->List Int->Int->Int
 | z::zs,x::xs=>λ t=>if z.1=t then x - z.2.1 else cn zs xs t
 | _,_=>λ _=>0
theorem iL{P:List (Int × Int)}(hc:∀ t,0<=fK P t):∀ {ks:List Int}{xs:List Int},InB ((af ks P).map λ z=>z.2) xs->∀ t,0<=cn (af ks P) xs t/\cn (af ks P) xs t<=fK P t
 | [],[],_,t=>⟨Lp _,hc t⟩
 | [],_::_,h,_=>h.elim
 | _::_,[],h,_=>h.elim
 | k::ks,x::xs,h,t=>by
  show 0<=(if k=t then x - cT P k else cn (af ks P) xs t)/\(if k=t then x - cT P k else cn (af ks P) xs t)<=fK P t
  by_cases e:k=t
  ·rw [K7 e];have h1:cT P k<=x/\x<=bD P k:=h.1;have:=gN P k;rw [←e];omega
  ·rw [K5 e];exact iL hc h.2 t
theorem p3{P:List (Int × Int)}:∀ {ks:List Int}{xs:List Int},ks.Nodup->InB ((af ks P).map λ z=>z.2) xs->iY ks (cn (af ks P) xs)=jd (af ks P) xs - iY ks (cT P)
 | [],[],_,_=>rfl
 | [],_::_,_,h=>h.elim
 | _::_,[],_,h=>h.elim
 | k::ks,x::xs,hn,h=>by
  obtain⟨hk,hn'⟩:=LD.mp hn;have ih:=p3 hn' h.2;rw [bu,bu]
  have e1:cn (af (k::ks) P) (x::xs) k=x - cT P k:=by
   show (if k=k then x - cT P k else cn (af ks P) xs k)=_
   rw [K7 rfl]
  have e2:iY ks (cn (af (k::ks) P) (x::xs))=iY ks (cn (af ks P) xs):=ju λ t ht=>by
   show (if k=t then x - cT P k else cn (af ks P) xs t)=_
   rw [K5 λ e=>hk (by rw [e];exact ht)]
  rw [e1,e2,ih]
  show _=k * x+jd (af ks P) xs - _
  rw [MV];omega
theorem meet{ks:List Int}{P:List (Int × Int)}{xs:List Int}(hn:ks.Nodup)(h1:∀ y∈P,(1:Int)<=y.2)(hk:∀ z∈P,ag z.1=0\/ag z.1∈ks)(hx:InB ((af ks P).map λ z=>z.2) xs):InP P (eU (cn (af ks P) xs) P)/\sQ P (eU (cn (af ks P) xs) P)=jd (af ks P) xs:=by
 have hb:=iL (pq h1) hx;refine⟨u5 h1 hb,?_⟩;rw [qd hn h1 hk hb,p3 hn hx]
 have:iY ks (cT P)=zW (P.map λ z=>(ag z.1,loP z)):=AN hn λ z hz=>by
  obtain⟨y,hy,rfl⟩:=Lo.mp hz;exact hk y hy
 omega
def KP(ks:List Int)(f:Int->Int):Int:=ks.foldr (λ t r=>(1+f t) * r) 1
def ak(A B:List (Int × Int)):List (Int × Int):=(A.map λ a=>(a.2,a.1))++B.map λ a=>(-a.2,a.1)
theorem g8{l b:Addr}{xs ys:List V}{H:Hp}{Q:VK}(h:H l=some (.lst xs))(h':H b=some (.lst ys))(hl:xs.length+ys.length<=sizeLine)(q:gy (.lst (xs++ys)) H Q):Hd Hc (.ref l) Q (.ref b) H:=by
 rw [Au,As,aD,h]
 show aO (aD H b) (He xs H Q)
 rw [aD,h'];exact⟨hl,q⟩
theorem fO{α:Type}{R:α->V->Prop}{as bs:List α}{xs ys:List V}(h1:Al R as xs)(h2:Al R bs ys):Al R (as++bs) (xs++ys):=by
 refine⟨by rw [K4,K4,h1.1,h2.1],λ i z y hz hy=>?_⟩
 by_cases hi:i < as.length
 ·rw [LQ hi] at hz;rw [LQ (by rw [h1.1];exact hi)] at hy;exact h1.2 i z y hz hy
 ·rw [Lk %[0|8]] at hz;rw [Lk (by rw [h1.1];omega),h1.1] at hy;exact h2.2 _ z y hz hy
theorem ke{α β:Type}{R:β->V->Prop}{f:α->β}{as:List α}{ys:List V}(h:Al (λ a y=>R (f a) y) as ys):Al R (as.map f) ys:=by
 refine⟨by rw [K2];exact h.1,λ i z y hz hy=>?_⟩;rw [Lh] at hz;obtain⟨a,ha,rfl⟩:=Lm.mp hz;exact h.2 i a y ha hy
abbrev mI(C:Addr)(u:Addr)(v:Addr)(H:Hp)(Q:VK)(E:XK):Prop:=∃ (r1 r2 f1 f2:Int) (A B:List (Int × Int)),bj C H u r1 f1 A/\bj C H v r2 f2 B/\A.length<=8/\B.length<=8/\∀ (r:Addr) (H':Hp),H r=none->Ext H H'->du H' r (ak A B)->Q (.ref r) H'
def nH(C:Addr):Sp:=λ vs H Q E=>∃ (u:Addr) (v:Addr),vs=[.ref u,.ref v]/\(mI C u v H Q E)
theorem my(C:Addr)(u:Addr)(v:Addr)(H:Hp)(Q:VK)(E:XK):nH C [.ref u,.ref v] H Q E=(mI C u v H Q E):=sJ (f:=λ (u:Addr) (v:Addr)=>[.ref u,.ref v]) (λ _ _ _ _ h=>by cases h;exact⟨rfl,rfl⟩) u v
theorem wB(C:Addr){vs:List V}{H:Hp}{Q:VK}{E:XK}(h:nH C vs H Q E):vs.length=2:=sL h λ _ _=>rfl
theorem pZ(T:Tx K mg t):bC P w K mg base CX0 1 t.a_pulls t.d_pulls ["one", "other"] (nH t.a_View):=by
 refine T.F_pulls.ok DA (λ vs H Q E h=>wB _ h) (λ c A o s H vs Q E hr h=>?_)
 ·obtain⟨u,v,rfl,r1,r2,f1,f2,A,B,vu,vv,hA,hB,k⟩:=h;obtain⟨dx,l,hu,ys,hl,al⟩:=vu.ob;obtain⟨dy,l2,hv,ys2,hl2,al2⟩:=vv.ob;have c1:=T.cl_View;have c3:=T.na_View_axes;have g1:=dj r1 f1 l;have g2:=dj r2 f2 l2;refine⟨_,%[%[%[fM,%[(["size", "pace", "one", "other"]),(2),(aP (aa hG) ["one", "other"] rfl rfl nofun),rfl,%[%[%[0|0],rfl|35]|24],(λ C s₀ H₀ ex pn=>(%[(2),rfl,%[%[(0),_,(show List.Nodup (["size", "pace", "one", "other"]:List Str) from by decide +kernel),rfl,(Or.inl rfl),%[0|7]|18],%[%[(1),_,(show List.Nodup (["size", "pace", "one", "other"]:List Str) from by decide +kernel),rfl,(Or.inl rfl),%[0|7]|18],(@aB _),∅|15],∅|15],∅,∅|22].mono λ _ _ _ _ h=>aZ h)),(λ C s₀ H₀ ex pn=>(@aY _)),(λ C s₀ H₀ ex pn=>%[%[%[1|0],%[%[0|0]|1]|1]|17]),(by intros;rfl)|26],%[(["size", "pace", "one", "other"]),(2),(aP (aa hG) ["one", "other"] rfl rfl nofun),rfl,%[%[%[1|0],rfl|35]|24],(λ C s₀ H₀ ex pn=>(%[(2),rfl,%[%[(0),_,(show List.Nodup (["size", "pace", "one", "other"]:List Str) from by decide +kernel),rfl,(Or.inl rfl),%[0|7]|18],%[%[(1),_,(show List.Nodup (["size", "pace", "one", "other"]:List Str) from by decide +kernel),rfl,(Or.inl rfl),%[0|7]|18],(@aB _),∅|15],∅|15],∅,∅|22].mono λ _ _ _ _ h=>aZ h)),(λ C s₀ H₀ ex pn=>(@aY _)),(λ C s₀ H₀ ex pn=>%[%[(@qJ _ _ _ _ _ _ fL %[1|0]),%[%[0|0]|1]|1]|17]),(by intros;rfl)|26]|12]|13]|11],?_⟩;rw [show start ["one", "other"] [.ref u,.ref v]=[some (.ref u),some (.ref v)] from rfl];exists k;ac_rfl;have wk:=jQ (K:=K) (R:=axP) (λ _ _ _ _ h e=>h.ext e) hl (lP al);refine dg A (λ _=>true) axP (λ D a y H'=>axP (a.2,a.1) y H') wk.1 wk.2 (λ D a y H1 H2 h e=>axP.ext (a:=(a.2,a.1)) h e) (λ D a y H1 xs o h hD=>axP.upd (z:=(a.2,a.1)) h hD) (az %[0|8]) ?_ ?_
  ·intro D a x H' N1 N0 ha hD e _ ⟨q,hx,hq⟩ k1 _;subst hx;have k1':=k1 rfl;clear k1 k wk;simp! only [↓b7,↓aU];intro t1 H6 ht1 e6 h6;exact k1' _ H6 e6 ⟨t1,rfl,h6⟩
  intro D xs1 H1 hD e1 h1 al1;rw [lE] at al1;have hv1:=e1.at hv;have hl21:=e1.at hl2;exists al1;clear wk;have wk:=jQ (K:=K) (R:=axP) (λ _ _ _ _ h e=>h.ext e) hl21 ((lP al2).imp λ _ _ t=>axP.ext t e1);ac_rfl;refine dg B (λ _=>true) axP (λ D a y H'=>axP (-a.2,a.1) y H') wk.1 wk.2 (λ D a y H1 H2 h e=>axP.ext (a:=(-a.2,a.1)) h e) (λ D a y H1 xs o h hD=>axP.upd (z:=(-a.2,a.1)) h hD) (az %[0|8]) ?_ ?_
  ·intro D a x H' N1 N0 ha hD e _ ⟨q,hx,hq⟩ k1 _;subst hx;have k1':=k1 rfl;clear k1 k wk;simp! only [↓b7,↓aU];intro t1 H6 ht1 e6 h6;exact k1' _ H6 e6 ⟨t1,rfl,h6⟩
  intro D2 xs2 H2 hD2 e2 h2 al2';rw [lE] at al2';have h1_2:=e2.at h1;have n1:xs1.length=A.length:=(al1 ()).1;have n2:xs2.length=B.length:=al2'.1;have fin:Al (λ z y=>axP z y H2) (ak A B) (xs1++xs2):=fO (ke ((al1 ()).imp λ _ _ t=>axP.ext t e2)) (ke al2');exists fin;clear wk al1 al2' hv1 hl21;refine g8 h1_2 h2 (az %[0|8]) ?_;intro D3 H3 hD3 e3 h3;exact k () D3 H3 ((e1.trans e2).free hD3) (e1.trans (e2.trans e3)) ⟨_,h3,(fin ()).imp λ _ _ t=>axP.ext t e3⟩
abbrev mH(C:Addr)(u:Addr)(v:Addr)(H:Hp)(Q:VK)(E:XK):Prop:=∃ (room f1 f2:Int) (A B:List (Int × Int)),bj C H u room f1 A/\bj C H v room f2 B/\Q .non H
def nG(C:Addr):Sp:=λ vs H Q E=>∃ (u:Addr) (v:Addr),vs=[.ref u,.ref v]/\(mH C u v H Q E)
theorem xf(C:Addr)(u:Addr)(v:Addr)(H:Hp)(Q:VK)(E:XK):nG C [.ref u,.ref v] H Q E=(mH C u v H Q E):=sJ (f:=λ (u:Addr) (v:Addr)=>[.ref u,.ref v]) (λ _ _ _ _ h=>by cases h;exact⟨rfl,rfl⟩) u v
theorem wA(C:Addr){vs:List V}{H:Hp}{Q:VK}{E:XK}(h:nG C vs H Q E):vs.length=2:=sL h λ _ _=>rfl
theorem iS(T:Tx K mg t):bC P w K mg base CX0 1 t.a_refuse_rooms t.d_refuse_rooms ["one", "other"] (nG t.a_View):=by
 refine T.F_refuse_rooms.ok jb (λ vs H Q E h=>wA _ h) (λ c A o s H vs Q E hr h=>?_)
 ·obtain⟨u,v,rfl,room,f1,f2,A,B,vu,vv,k⟩:=h;obtain⟨dx,D,hu,_⟩:=vu.ob;obtain⟨dy,D2,hv,_⟩:=vv.ob;have c1:=T.cl_View;have c4:=T.na_View_room;have g1:=jo room f1 D;have g2:=jo room f2 D2;refine⟨_,%[%[%[(cH hr.units),%[%[0|0],rfl|35],%[%[1|0],rfl|35],(ai _)|14],%[(@gI _ _)|11],(@ar _)|16]|11],?_⟩;rw [show start ["one", "other"] [.ref u,.ref v]=[some (.ref u),some (.ref v)] from rfl];ac_rfl
theorem iq{kvs:List (Key × V)}{k:Key}(v:V){x:V}(h:dr kvs k=some x):(df kvs k v).map (·.1)=kvs.map (·.1):=by
 unfold df;rw [eF,h,Option.isSome_some,if_pos rfl,map_map];refine List.map_congr_left λ p _=>?_
 show (if p.1=k then (p.1,v) else p).1=p.1
 split<;>rfl
theorem fP:∀ (l:List (Int × Int)) (z:Int × Int) (t:Int),dU (l++[z]) t=dU l t+(if z.1=t then z.2 else 0)
 | [],z,t=>by show (if z.1=t then z.2 else 0)+0=0+_;omega
 | y::l,z,t=>by
  show (if y.1=t then y.2 else 0)+dU (l++[z]) t=(if y.1=t then y.2 else 0)+dU l t+_
  rw [fP l z t];omega
theorem gM(P:List (Int × Int))(z:Int × Int)(t:Int):cT (P++[z]) t=cT P t+(if ag z.1=t then loP z else 0):=by
 unfold cT;rw [map_append];exact fP _ _ _
theorem fD(P:List (Int × Int))(z:Int × Int)(t:Int):bD (P++[z]) t=bD P t+(if ag z.1=t then hiP z else 0):=by
 unfold bD;rw [map_append];exact fP _ _ _
theorem ee{f:Int × Int->Int}{t:Int}:∀ {P:List (Int × Int)},(∀ z∈P,¬ ag z.1=t)->dU (P.map λ z=>(ag z.1,f z)) t=0
 | [],_=>rfl
 | z::P,h=>by
  rw [LG]
  show (if ag z.1=t then f z else 0)+_=0
  rw [K5 (h z K1),ee λ y hy=>h y (KZ _ hy)];rfl
theorem fX{kvs:List (Key × V)}{k:Key}{v:V}(h:dr kvs k=none):(df kvs k v).map (·.1)=kvs.map (·.1)++[k]:=by
 have hn:=L2.Hl h;unfold df;split
 ·rename_i hc
  exact absurd hc (by
   intro hc;apply hn
   simpa [Lo] using hc)
 ·rw [Mb];rfl
structure qH(P:List (Int × Int))(ks:List Int)(k1 k2:List (Key × V)):Prop where
 e1:k1.map (·.1)=ks.map (Sum.inl:Int->Key)
 e2:k2.map (·.1)=ks.map (Sum.inl:Int->Key)
 nd:ks.Nodup
 len:ks.length<=P.length
 v1:∀ t∈ks,dr k1 (.inl t)=some (.int (cT P t))
 v2:∀ t∈ks,dr k2 (.inl t)=some (.int (bD P t))
 mem:∀ t,t∈ks ↔ t ≠ 0/\∃ z∈P,ag z.1=t
theorem eI{kvs:List (Key × V)}{ks:List Int}{t:Int}(e:kvs.map (·.1)=ks.map (Sum.inl:Int->Key))(h:¬ t∈ks):dr kvs (.inl t)=none:=by
 cases hv:dr kvs (.inl t) with
 | none=>rfl
 | some v=>
  exfalso;unfold dr at hv;obtain⟨kv,hf,rfl⟩:=Option.map_eq_some_iff.mp hv;have e2:=List.find?_some hf;have e3:kv.1=.inl t:=of_decide_eq_true e2;have hm:kv.1∈kvs.map (·.1):=List.mem_map.mpr ⟨kv,List.mem_of_find?_eq_some hf,rfl⟩;rw [e,e3] at hm;obtain⟨x,hx,ex⟩:=List.mem_map.mp hm;cases ex;exact h hx
theorem qH.get{P:List (Int × Int)}{ks:List Int}{k1 k2:List (Key × V)}(h:qH P ks k1 k2){t:Int}(ht:t ≠ 0):(dr k1 (.inl t)).getD (.int 0)=.int (cT P t)/\(dr k2 (.inl t)).getD (.int 0)=.int (bD P t):=by
 by_cases hm:t∈ks
 ·rw [h.v1 t hm,h.v2 t hm];exact⟨rfl,rfl⟩
 ·have hno:∀ z∈P,¬ ag z.1=t:=λ z hz e=>hm ((h.mem t).mpr ⟨ht,z,hz,e⟩);rw [eI h.e1 hm,eI h.e2 hm];unfold cT bD;rw [ee hno,ee hno];exact⟨rfl,rfl⟩
theorem qH.nil:qH [] [] [] []:=⟨rfl,rfl,NH,K3 _,(λ t h=>by cases h),(λ t h=>by cases h),λ t=>⟨(λ h=>by cases h),λ ⟨_,z,hz,_⟩=>by cases hz⟩⟩
theorem qH.skip{P:List (Int × Int)}{ks:List Int}{k1 k2:List (Key × V)}{z:Int × Int}(h:qH P ks k1 k2)(hz:z.1=0):qH (P++[z]) ks k1 k2:=by
 have h0:ag z.1=0:=by rw [hz];rfl
 have hne:∀ t∈ks,¬ ag z.1=t:=λ t ht e=>((h.mem t).mp ht).1 (by rw [←e];exact h0);refine⟨h.e1,h.e2,h.nd,by rw [K4];have:=h.len;omega,λ t ht=>?_,λ t ht=>?_,λ t=>?_⟩
 ·rw [h.v1 t ht,gM,K5 (hne t ht),L7]
 ·rw [h.v2 t ht,fD,K5 (hne t ht),L7]
 ·rw [h.mem t];constructor
  ·rintro ⟨a,y,hy,e⟩;exact⟨a,y,L5 _ hy,e⟩
  ·rintro ⟨a,y,hy,e⟩
   rcases Lu.mp hy with hy|hy
   ·exact⟨a,y,hy,e⟩
   ·rw [Ln.mp hy,h0] at e;exact absurd e.symm a
theorem qH.put{P:List (Int × Int)}{ks:List Int}{k1 k2:List (Key × V)}{z:Int × Int}(h:qH P ks k1 k2)(hz:z.1 ≠ 0):∃ ks',qH (P++[z]) ks' (df k1 (.inl (ag z.1)) (.int (cT P (ag z.1)+loP z))) (df k2 (.inl (ag z.1)) (.int (bD P (ag z.1)+hiP z))):=by
 have h0:ag z.1 ≠ 0:=by unfold ag;omega
 have hv:∀ (k:List (Key × V)) (v:V) (t:Int),dr (df k (.inl (ag z.1)) v) (.inl t)=if ag z.1=t then some v else dr k (.inl t):=λ k v t=>by
  rw [kg]
  by_cases e:ag z.1=t
  ·rw [K7 e,K7 (by rw [e])]
  ·rw [K5 e,K5 (λ q=>e (by cases q;rfl))]
 have fin:∀ ks',(∀ t,t∈ks' ↔ t∈ks\/t=ag z.1)->(df k1 (.inl (ag z.1)) (.int (cT P (ag z.1)+loP z))).map (·.1)=ks'.map (Sum.inl:Int->Key)->(df k2 (.inl (ag z.1)) (.int (bD P (ag z.1)+hiP z))).map (·.1)=ks'.map (Sum.inl:Int->Key)->ks'.Nodup->ks'.length<=ks.length+1->qH (P++[z]) ks' (df k1 (.inl (ag z.1)) (.int (cT P (ag z.1)+loP z))) (df k2 (.inl (ag z.1)) (.int (bD P (ag z.1)+hiP z))):=λ ks' hm a1 a2 a3 a4=>by
  refine⟨a1,a2,a3,by rw [K4,K9];have:=h.len;omega,λ t ht=>?_,λ t ht=>?_,λ t=>?_⟩
  ·rw [hv,gM]
   by_cases e:ag z.1=t
   ·rw [K7 e,K7 e,e]
   ·rw [K5 e,K5 e,L7];exact h.v1 t (((hm t).mp ht).resolve_right λ q=>e q.symm)
  ·rw [hv,fD]
   by_cases e:ag z.1=t
   ·rw [K7 e,K7 e,e]
   ·rw [K5 e,K5 e,L7];exact h.v2 t (((hm t).mp ht).resolve_right λ q=>e q.symm)
  ·rw [hm t,h.mem t];constructor
   ·rintro (⟨a,y,hy,e⟩|e)
    ·exact⟨a,y,L5 _ hy,e⟩
    ·exact⟨by rw [e];exact h0,z,Lx _ K1,e.symm⟩
   ·rintro ⟨a,y,hy,e⟩
    rcases Lu.mp hy with hy|hy
    ·exact .inl ⟨a,y,hy,e⟩
    ·rw [Ln.mp hy] at e;exact .inr e.symm
 by_cases hm:ag z.1∈ks
 ·refine⟨ks,fin ks (λ t=>⟨.inl,λ q=>q.elim id λ e=>by rw [e];exact hm⟩) ?_ ?_ h.nd %[0|8]⟩
  ·rw [iq _ (h.v1 _ hm)];exact h.e1
  ·rw [iq _ (h.v2 _ hm)];exact h.e2
 ·refine⟨ks++[ag z.1],fin _ (λ t=>by rw [Lu,Ln]) ?_ ?_ ?_ (by rw [K4];exact K3 _)⟩
  ·rw [fX (eI h.e1 hm),h.e1,Mb];rfl
  ·rw [fX (eI h.e2 hm),h.e2,Mb];rfl
  ·rw [List.nodup_append];exact⟨h.nd,by simp,λ a ha b hb e=>hm (by rw [Ln] at hb;rw [←hb,←e];exact ha)⟩
structure jh(ks:List Int)(P:List (Int × Int)):Prop where
 nd:ks.Nodup
 len:ks.length<=P.length
 mem:∀ t,t∈ks ↔ t ≠ 0/\∃ z∈P,ag z.1=t
 ord:ks.Pairwise (· >= ·)
theorem trP.upd{z:Tm3}{y:V}{H:Hp}{p:Addr}{xs:List V}{o:HO}(h:trP z y H)(hp:H p=some (.lst xs)):trP z y (upd H p o):=by
 obtain⟨q,rfl,hq⟩:=h;exact⟨q,rfl,by rw [ae (λ e=>by rw [e,hp] at hq;cases hq)];exact hq⟩
abbrev qD(C:Addr)(u:Addr)(v:Addr)(H:Hp)(Q:VK)(E:XK):Prop:=∃ (room f1 f2:Int) (A B:List (Int × Int)),bj C H u room f1 A/\bj C H v room f2 B/\oW A/\oW B/\∀ (ks:List Int) (l r:Addr) (H':Hp),Ext H H'->H' r=some (.tup [.ref l,.int (f2 - f1)])->gz H' l (af ks (ak A B))->jh ks (ak A B)->Q (.ref r) H'
def t7(C:Addr):Sp:=λ vs H Q E=>∃ (u:Addr) (v:Addr),vs=[.ref u,.ref v]/\(qD C u v H Q E)
theorem qj(C:Addr)(u:Addr)(v:Addr)(H:Hp)(Q:VK)(E:XK):t7 C [.ref u,.ref v] H Q E=(qD C u v H Q E):=sJ (f:=λ (u:Addr) (v:Addr)=>[.ref u,.ref v]) (λ _ _ _ _ h=>by cases h;exact⟨rfl,rfl⟩) u v
theorem yT(C:Addr){vs:List V}{H:Hp}{Q:VK}{E:XK}(h:t7 C vs H Q E):vs.length=2:=sL h λ _ _=>rfl
theorem iH(T:Tx K mg t):bC P w K mg base CX0 2 t.a_gathered t.d_gathered ["one", "other"] (t7 t.a_View):=by
 have G_refuse_rooms:=%[iS|46];have G_pulls:=%[pZ|46];refine T.F_gathered.ok bJ (λ vs H Q E h=>yT _ h) (λ cdv A' outer s H vs Q E hr h=>?_)
 ·obtain⟨u,v,rfl,room,f1,f2,A,B,vu,vv,hA,hB,k⟩:=h;obtain⟨dx,l1,hu,_⟩:=vu.ob;obtain⟨dy,l2,hv,_⟩:=vv.ob;have c1:=T.cl_View;have c4:=T.na_View_first;have g1:=dC room f1 l1;have g2:=dC room f2 l2;refine⟨_,%[%[%[refuse_rooms,%[%[0|0],%[%[1|0]|1]|1]|3],∅|34],%[(@gX _ _ (2) _ _ _ _ bJ.nd rfl (Or.inr rfl) (@gJ _ _) ∅ %[0|7]),%[(@gX _ _ (3) _ _ _ _ bJ.nd rfl (Or.inr rfl) (@gJ _ _) ∅ %[0|7]),%[%[Lv,rfl,%[%[pulls,%[%[0|0],%[%[1|0]|1]|1]|3]|24],(%[(2),rfl,%[%[4,bJ|5],%[%[5,bJ|5],(@aB _),∅|15],∅|15],∅,∅|22].mono λ _ _ _ _ h=>aZ h),%[%[%[(cH hr.units),%[4|0],%[0|2],(ai _)|14],%[%[6,bJ,%[abs,bQ,%[%[4|0]|1]|6]|4],%[%[7,bJ,(@kH _ _ _ _ _ _ _ _ %[dR,%[4|0],%[0|2],(ai _)|14] %[aF,%[5|0],%[0|2]|12] %[aF,%[0|2],%[5|0]|12])|4],%[%[(cG hr.units),%[2|0],%[6|0],%[aH,%[(cG hr.units),%[2|0],%[6|0],%[0|2],⟨by rfl,by rfl,by rfl,by rfl⟩|44],%[min,(ef rfl),%[%[0|2],%[%[7|0]|1]|1]|6]|12],rfl|42],%[%[(cG hr.units),%[3|0],%[6|0],%[aH,%[(cG hr.units),%[3|0],%[6|0],%[0|2],⟨by rfl,by rfl,by rfl,by rfl⟩|44],%[max,(fE rfl),%[%[0|2],%[%[7|0]|1]|1]|6]|12],rfl|42]|11]|10]|10]|10],(@ar _)|16]|11],(by intros;rfl)|30],%[(@uH _ _ _ _ _ _ _ _ _ _ _ _ _ (["times", "one", "other", "lows", "highs", "pace", "size", "!times", "reach", "terms"]) (1) (8) _ bJ.nd rfl (Or.inl rfl) (aP (aa eL) ["one", "other", "lows", "highs", "pace", "size", "times", "reach", "terms"] rfl rfl nofun) rfl %[(@vF _ ("sorted") _ _ _ _ _ _ _ _ _ _ (rY rfl) ∅ T.z_sorted nofun %[%[2|0]|1] (@BF _ _ _ _ _ _ _ (@cC _ _ _ _) (@EV _)) ⋯ ⋯ ∅ ∅ ∅ ∅ ∅)|24] (λ C s₀ H₀ ex pn=>%[(0),_,(show List.Nodup (["times", "one", "other", "lows", "highs", "pace", "size", "!times", "reach", "terms"]:List Str) from by decide +kernel),rfl,(Or.inl rfl),%[0|7]|18]) (λ C s₀ H₀ ex pn=>(@aY _)) (λ C s₀ H₀ ex pn=>%[%[%[0|0],%[(@nW _ _ _ _ _ _ (cG hr.units) %[3|0] %[0|0] (λ _ _=>rfl)),%[(@nW _ _ _ _ _ _ (cG hr.units) %[4|0] %[0|0] (λ _ _=>rfl))|1]|1]|1]|17]) ∅ (by intros;rfl) %[0|7]),%[%[%[%[%[8|0],%[%[aF,%[%[1|0],rfl|35],%[%[0|0],rfl|35]|12]|1]|1]|17]|13]|11]|10]|10]|10]|10]|10],?_⟩;rw [show start ["one", "other", "lows", "highs", "pace", "size", "times", "reach", "terms"] [.ref u,.ref v]=[some (.ref u),some (.ref v),none,none,none,none,none,none,none] from rfl];clear G_refuse_rooms G_pulls
  have hsz:∀ z∈ak A B,(1:Int)<=z.2:=λ z hz=>by
   unfold ak at hz
   rcases Lu.mp hz with hz|hz
   ·obtain⟨a,ha,rfl⟩:=Lo.mp hz;exact(hA.2 a ha).1
   ·obtain⟨a,ha,rfl⟩:=Lo.mp hz;exact(hB.2 a ha).1
  have hPl:(ak A B).length<=16:=by unfold ak;rw [length_append,length_map,length_map];have:=hA.1;have:=hB.1;omega
  exists k;exists hsz;ac_rfl;rw [xf];refine⟨room,f1,f2,A,B,vu,vv,?_⟩;ac_rfl;intro d1 H1 hd1 e1 h1;ac_rfl;intro d2 H2 hd2 e2 h2;have e02:=e1.trans e2;have h1_2:=e2.at h1;have hd1_0:=hd1;have hd2_0:H d2=none:=e1.free hd2;have n12:d1 ≠ d2:=λ z=>by rw [z,hd2] at h1;cases h1
  clear hd1 hd2 h1;ac_rfl;rw [my];refine⟨room,room,f1,f2,A,B,vu.ext e02,vv.ext e02,hA.1,hB.1,λ r H3 hr3 e3 t3=>?_⟩;obtain⟨ys,hy3,al⟩:=t3;have e03:=e02.trans e3;have nr1:r ≠ d1:=λ z=>by rw [z,h1_2] at hr3;cases hr3
  have nr2:r ≠ d2:=λ z=>by rw [z,h2] at hr3;cases hr3
  have hyl:ys.length=(ak A B).length:=al.1;generalize ak A B=P' at *;have h1_3:=e3.at h1_2;have h2_3:=e3.at h2;exists al;clear hr3 e1 e2 e3 e02 h1_2 h2;ac_rfl;refine ed (xs:=ys) (λ i σ H'=>∃ (ks:List Int) (k1 k2:List (Key × V)) (v4 v5 v6 v7:Option V),σ=[some (.ref u),some (.ref v),some (.ref d1),some (.ref d2),v4,v5,v6,v7,none]/\Ext H H'/\(∀ b o,b ≠ d1->b ≠ d2->H3 b=some o->H' b=some o)/\H' d1=some (.dK k1)/\H' d2=some (.dK k2)/\qH (P'.take i) ks k1 k2) ⟨[],[],[],none,none,none,none,rfl,e03,λ _ _ _ _ h=>h,h1_3,h2_3,qH.nil⟩ (λ i σ H' _ ⟨_,_,_,_,_,_,_,_,_,kp,_⟩=>kp r _ nr1 nr2 hy3) ?_ ?_
  ·rintro i y _ H4 hi ⟨ks,k1,k2,v4,v5,v6,v7,rfl,e4,kp,h14,h24,gi⟩;have hil:i < P'.length:=by have:=(K0.mp hi).1;omega
   obtain⟨z,hz⟩:∃ z,P'[i]? = some z:=⟨_,KU hil⟩;obtain⟨q,rfl,hq⟩:=(al ()).2 i z y hz hi;have hz1:=hsz () z (My hz);have htk:P'.take (i+1)=P'.take i++[z]:=by rw [M3,hz];rfl
   have hq4:=kp q _ (λ e=>by rw [e,h1_3] at hq;cases hq) (λ e=>by rw [e,h2_3] at hq;cases hq) hq;have lk1:k1.length < sizeLine:=dY (by have:=L6 List.length gi.e1;have:=gi.len;rw [K2,K2] at *;rw [LW] at *;omega);have lk2:k2.length < sizeLine:=dY (by have:=L6 List.length gi.e2;have:=gi.len;rw [K2,K2] at *;rw [LW] at *;omega);rw [htk]
   by_cases hz0:z.1=0
   ·have gs:=λ (_:Unit)=>gi.skip hz0;clear gi hi hz k;simp! only [↓aE];exact⟨ks,k1,k2,_,_,_,_,rfl,e4,kp,rfl,rfl,gs ()⟩
   ·have hab:ag z.1 ≠ 0:=by unfold ag;omega
    obtain⟨b1,b2⟩:=gi.get hab;have gp:=λ (_:Unit)=>gi.put hz0;exists hz1
    have habs:(if z.1 < 0 then -z.1 else z.1)=ag z.1:=by unfold ag;split<;>omega
    clear gi hi hz k
    by_cases hp:0 < z.1
    ·have hmin:(if z.2 - 1 < 0 then z.2 - 1 else 0)=loP z:=by unfold loP;rw [if_pos hp];have:=hz1 ();split<;>omega
     have hmax:(if 0 < z.2 - 1 then z.2 - 1 else 0)=hiP z:=by unfold hiP;rw [if_pos hp];have:=hz1 ();split<;>omega
     simp! only [↓aE];refine eV h14 ?_;ac_rfl;refine gW (k:=.inl (ag z.1)) h14 ?_;rw [b1];ac_rfl;refine gk (k:=.inl (ag z.1)) h14 lk1 ?_;have h15:upd H4 d1 (.dK (df k1 (.inl (ag z.1)) (.int (cT (P'.take i) (ag z.1)+loP z)))) d2=some (.dK k2):=by rw [ae (Lw n12)];exact h24
     ac_rfl;refine eV h15 ?_;ac_rfl;refine gW (k:=.inl (ag z.1)) h15 ?_;rw [b2];ac_rfl;refine gk (k:=.inl (ag z.1)) h15 lk2 ?_;obtain⟨ks',gp'⟩:=gp ();exact⟨ks',_,_,_,_,_,_,rfl,(e4.put hd1_0).put hd2_0,λ b o x1 x2 h=>by rw [ae x2,ae x1];exact kp b o x1 x2 h,by rw [ae n12];exact ah,ah,gp'⟩
    ·have hmin:(if 1 - z.2 < 0 then 1 - z.2 else 0)=loP z:=by unfold loP;rw [if_neg hp];have:=hz1 ();split<;>omega
     have hmax:(if 0 < 1 - z.2 then 1 - z.2 else 0)=hiP z:=by unfold hiP;rw [if_neg hp];have:=hz1 ();split<;>omega
     simp! only [↓aE];refine eV h14 ?_;ac_rfl;refine gW (k:=.inl (ag z.1)) h14 ?_;rw [b1];ac_rfl;refine gk (k:=.inl (ag z.1)) h14 lk1 ?_;have h15:upd H4 d1 (.dK (df k1 (.inl (ag z.1)) (.int (cT (P'.take i) (ag z.1)+loP z)))) d2=some (.dK k2):=by rw [ae (Lw n12)];exact h24
     ac_rfl;refine eV h15 ?_;ac_rfl;refine gW (k:=.inl (ag z.1)) h15 ?_;rw [b2];ac_rfl;refine gk (k:=.inl (ag z.1)) h15 lk2 ?_;obtain⟨ks',gp'⟩:=gp ();exact⟨ks',_,_,_,_,_,_,rfl,(e4.put hd1_0).put hd2_0,λ b o x1 x2 h=>by rw [ae x2,ae x1];exact kp b o x1 x2 h,by rw [ae n12];exact ah,ah,gp'⟩
  ·rintro _ H4 ⟨ks,k1,k2,v4,v5,v6,v7,rfl,e4,kp,h14,h24,gi⟩;rw [hyl,Mw] at gi;have hu4:=e4.at hu;have hv4:=e4.at hv;have hk1:ks.length < 64:=by have:=gi.len;omega
   exists gi;clear al hy3 h1_3 h2_3 hd1_0 hd2_0 kp e03 hsz;ac_rfl;refine xN h14 (gi ()).e1 hk1 λ ms hpm hord=>?_;intro q5 H5 hq5 e5 h5;have h14_5:=e5.at h14;have h24_5:=e5.at h24;have hms:ms.length<=64:=by rw [hpm.length_eq];omega
   exists hpm;exists hord;clear hq5;ac_rfl;have wk:=oX (K:=K) h5;refine dg (ms.map V.int) (λ _=>true) (λ z x H'=>x=z/\H' q5=some (.lst (ms.map V.int))) (λ D z y H'=>trP (vi z,cT P' (vi z),bD P' (vi z)) y H') wk.1 wk.2 (λ D z y H1 H2 h e=>trP.ext (z:=(vi z,cT P' (vi z),bD P' (vi z))) h e) (λ D z y H1 xs o h hD=>trP.upd (z:=(vi z,cT P' (vi z),bD P' (vi z))) h hD) (az (by rw [K2];omega)) ?_ ?_
   ·intro D z y H' N1 N0 hz hD e _ ⟨hy,_⟩ kx _;subst hy;obtain⟨t',ht',rfl⟩:=Lo.mp hz;have hm:=(hpm ()).mem_iff.mp ht';have w1:=(gi ()).v1 t' hm;have w2:=(gi ()).v2 t' hm;have k1':=kx rfl;have a1:=e.at h14_5;have a2:=e.at h24_5;clear kx k hz wk;simp! only [↓bW,↓aU];refine tK (k:=.inl t') a1 w1 ?_;ac_rfl;refine tK (k:=.inl t') a2 w2 ?_;ac_rfl;intro g H6 _ e6 h6;exact k1' _ H6 e6 ⟨g,rfl,h6⟩
   ·intro D zs H6 hD e6 h6 al6;rw [lE] at al6
    have t6:gz H6 D (af ms P'):=⟨zs,h6,by
     refine⟨by rw [al6.1];unfold af;rw [length_map,length_map],λ i z y hz hy=>?_⟩;unfold af at hz;rw [getElem?_map] at hz;obtain⟨t',ht',rfl⟩:=Option.map_eq_some_iff.mp hz;exact al6.2 i (.int t') y (by rw [getElem?_map,ht'];rfl) hy⟩
    have ko:jh ms P':=⟨(hpm ()).nodup_iff.mpr (gi ()).nd,by rw [(hpm ()).length_eq];exact(gi ()).len,λ t'=>(hpm ()).mem_iff.trans ((gi ()).mem t'),hord ()⟩;have e46:=e5.trans e6;have hu6:=e46.at hu4;have hv6:=e46.at hv4;exists t6;exists ko;clear al6 wk hD h6 h5 hu4 hv4 h14_5 h24_5 h14 h24;ac_rfl;intro r7 H7 _ e7 h7;exact k () ms D r7 H7 (e4.trans (e46.trans e7)) h7 (bL (t6 ()) e7) (ko ())
abbrev jM  (p:Addr) (H:Hp) (Q:VK) (E:XK):Prop:=∃ zs:List Tm3,gz H p zs/\zs.length<=17/\∀ (r:Addr) (H':Hp),Ext H H'->du H' r (zs.map λ z=>z.2)->Q (.ref r) H'
def ky  : Sp:=λ vs H Q E=>∃ (p:Addr),vs=[.ref p]/\(jM  p H Q E)
theorem jD  (p:Addr) (H:Hp) (Q:VK) (E:XK):ky  [.ref p] H Q E=(jM  p H Q E):=xt (f:=λ (p:Addr)=>[.ref p]) (λ _ _ h=>by cases h;exact rfl) p
theorem rO  {vs:List V}{H:Hp}{Q:VK}{E:XK}(h:ky  vs H Q E):vs.length=1:=sO h λ _=>rfl
theorem fF(T:Tx K mg t):bC P w K mg base CX0 1 t.a_first_case t.d_first_case ["terms"] ky:=by
 refine T.F_first_case.ok m9 (λ vs H Q E h=>rO h) (λ c A o s H vs Q E hr h=>?_)
 ·obtain⟨p,rfl,zs,⟨ys,hp,al⟩,hl,k⟩:=h;refine⟨_,%[%[%[(["term", "terms"]),(1),(aP (aa cL) ["terms"] rfl rfl nofun),rfl,%[%[0|0]|24],(λ C s₀ H₀ ex pn=>%[(0),_,(show List.Nodup (["term", "terms"]:List Str) from by decide +kernel),rfl,(Or.inl rfl),%[0|7]|18]),(λ C s₀ H₀ ex pn=>(@aY _)),(λ C s₀ H₀ ex pn=>%[%[%[ay,%[0|0],%[0|2],(λ _ _=>rfl)|9],%[%[ay,%[0|0],%[0|2],(λ _ _=>rfl)|9]|1]|1]|17]),(by intros;rfl)|26]|13]|11],?_⟩;rw [show start ["terms"] [.ref p]=[some (.ref p)] from rfl];exists k;have wk:=jQ (K:=K) (R:=trP) (λ _ _ _ _ h e=>h.ext e) hp al;ac_rfl;refine dg zs (λ _=>true) trP (λ D z y H'=>axP z.2 y H') wk.1 wk.2 (λ D z y H1 H2 h e=>axP.ext (a:=z.2) h e) (λ D z y H1 xs o h hD=>axP.upd (z:=z.2) h hD) (az %[0|8]) ?_ ?_
  ·intro D z x H' N1 N0 hz hD e _ ⟨q,hx,hq⟩ k1 _;subst hx;have k1':=k1 rfl;clear k1 k wk;simp! only [↓bW,↓aU];intro t1 H6 ht1 e6 h6;exact k1' _ H6 e6 ⟨t1,rfl,h6⟩
  intro D ys2 H2 hD e2 h2 al2;rw [lE] at al2;have k':=k () D H2 e2 ⟨ys2,h2,ke al2⟩;clear k wk al2;ac_rfl
theorem Jh{n:Nat}{c:Int}(h0:0<=c)(h1:c < n):ixN n c=some c.toNat:=by
 unfold ixN;rw [if_pos h0,if_pos %[0|8]]
theorem pz{α:Type}{R:α->V->Prop}{zs:List α}{ys:List V}{k:Nat}{z:α}{y:V}(h:Al R zs ys)(r:R z y):Al R (zs.set k z) (ys.set k y):=by
 refine⟨by rw [NO,NO];exact h.1,λ i a b ha hb=>?_⟩;rw [List.getElem?_set] at ha hb
 by_cases e:k=i
 ·rw [K7 e] at ha hb;split at ha
  ·split at hb
   ·cases ha;cases hb;exact r
   ·cases hb
  ·cases ha
 ·rw [K5 e] at ha hb;exact h.2 i a b ha hb
abbrev jF  (q:Addr) (k:Int) (a:Int) (H:Hp) (Q:VK) (E:XK):Prop:=∃ (cs:Bx) (m:Nat),k=(m:Int)/\du H q cs/\m < cs.length/\cs.length<=17/\∀ (r a1 a2:Addr) (H':Hp),H a1=none->H a2=none->Ext H H'->H' r=some (.lst [.ref a1,.ref a2])->du H' a1 (upC cs m a)->du H' a2 (loC cs m a)->Q (.ref r) H'
def kj  : Sp:=λ vs H Q E=>∃ (q:Addr) (k:Int) (a:Int),vs=[.ref q,.int k,.int a]/\(jF  q k a H Q E)
theorem jA  (q:Addr) (k:Int) (a:Int) (H:Hp) (Q:VK) (E:XK):kj  [.ref q,.int k,.int a] H Q E=(jF  q k a H Q E):=ni (f:=λ (q:Addr) (k:Int) (a:Int)=>[.ref q,.int k,.int a]) (λ _ _ _ _ _ _ h=>by cases h;exact⟨rfl,rfl,rfl⟩) q k a
theorem rG  {vs:List V}{H:Hp}{Q:VK}{E:XK}(h:kj  vs H Q E):vs.length=3:=nj h λ _ _ _=>rfl
theorem md(T:Tx K mg t):bC P w K mg base CX0 1 t.a_parted t.d_parted ["case", "k", "at"] kj:=by
 refine T.F_parted.ok kS (λ vs H Q E h=>rG h) (λ c A o s H vs Q E hr h=>?_)
 ·obtain⟨q,_,a,rfl,cs,m,rfl,⟨ys,hq,al⟩,hm,h17,k⟩:=h;refine⟨_,%[%[3,kS,(@fA _ _ _ _ _ _ _ _ _ jx ∅ T.z_list nofun %[%[0|0]|1] ⋯ ⋯ ∅ ∅)|4],%[%[4,kS,(@fA _ _ _ _ _ _ _ _ _ jx ∅ T.z_list nofun %[%[0|0]|1] ⋯ ⋯ ∅ ∅)|4],%[%[%[%[%[aH,%[2|0],%[0|2]|12],%[%[ay,%[ay,%[0|0],%[1|0],(λ _ _=>rfl)|9],%[0|2],(λ _ _=>rfl)|9]|1]|1]|17],(@Am _ _ _ _ _ _ _ %[3|0] %[1|0] pP (by intros;rfl)),∅,∅,∅|37],%[%[%[%[%[ay,%[ay,%[0|0],%[1|0],(λ _ _=>rfl)|9],%[0|2],(λ _ _=>rfl)|9],%[%[2|0]|1]|1]|17],(@Am _ _ _ _ _ _ _ %[4|0] %[1|0] pP (by intros;rfl)),∅,∅,∅|37],%[%[%[%[%[3|0],%[%[4|0]|1]|1]|23]|13]|11]|10]|10]|10]|10],?_⟩;rw [show start ["case", "k", "at", "upper", "lower"] [.ref q,.int (m:Int),.int a]=[some (.ref q),some (.int (m:Int)),some (.int a),none,none] from rfl];have hyl:ys.length=cs.length:=al.1;obtain⟨y,hat,hy⟩:=fq al hm;rw [LF] at hat;have ix:ixN ys.length (m:Int)=some m:=by have:=Jh (n:=ys.length) (c:=(m:Int)) %[0|8] %[0|8];rw [LK] at this;exact this
  exists hyl;exists k;exists al;ac_rfl;intro p1 H1 hp1 e1 h1;have hq1:=e1.at hq;ac_rfl;intro p2 H2 hp2 e2 h2;have hq2:=e2.at hq1;have h1_2:=e2.at h1;have hy2:=(e1.trans e2).at hy;have hp2_0:H p2=none:=e1.free hp2;have n12:p1 ≠ p2:=λ z=>by rw [z,hp2] at h1;cases h1
  have nq1:q ≠ p1:=λ z=>by rw [z,hp1] at hq;cases hq
  have ny1:y ≠ p1:=λ z=>by rw [z,hp1] at hy;cases hy
  have hp1_0:=hp1;clear hp1 hp2 h1 hq1;ac_rfl;intro t3 H3 ht3 e3 h3;have h1_3:=e3.at h1_2;have h2_3:=e3.at h2;have hq3:=e3.at hq2;have hy3:=e3.at hy2;have nt1:t3 ≠ p1:=λ z=>by rw [z,h1_2] at ht3;cases ht3
  have e03:=e1.trans (e2.trans e3);clear ht3 h1_2 h2 hq2 hy2 e1 e2 e3;ac_rfl;have h2_4:upd H3 p1 (.lst (ys.set m (.ref t3))) p2=some (.lst ys):=by rw [ae (Lw n12)];exact h2_3
  have hq4:upd H3 p1 (.lst (ys.set m (.ref t3))) q=some (.lst ys):=by rw [ae nq1];exact hq3
  have hy4:upd H3 p1 (.lst (ys.set m (.ref t3))) y=some (.tup [.int (cs.getD m default).1,.int (cs.getD m default).2]):=by rw [ae ny1];exact hy3
  have h1_4:upd H3 p1 (.lst (ys.set m (.ref t3))) p1=some (.lst (ys.set m (.ref t3))):=ah;have h3_4:upd H3 p1 (.lst (ys.set m (.ref t3))) t3=some (.tup [.int (a+1),.int (cs.getD m default).2]):=by rw [ae nt1];exact h3
  have e04:Ext H (upd H3 p1 (.lst (ys.set m (.ref t3)))):=e03.put hp1_0;generalize upd H3 p1 (.lst (ys.set m (.ref t3)))=H4 at *;clear h1_3 h2_3 hq3 hy3 h3 e03;ac_rfl;intro t5 H5 ht5 e5 h5;have h2_5:=e5.at h2_4;have nt2:t5 ≠ p2:=λ z=>by rw [z,h2_4] at ht5;cases ht5
  have n32:t3 ≠ p2:=λ z=>by rw [z,h2_4] at h3_4;cases h3_4
  have e05:=e04.trans e5;have h1_5:=e5.at h1_4;have h3_5:=e5.at h3_4;clear ht5 hq4 hy4 h2_4 h1_4 h3_4 e04 e5;ac_rfl;have h2_6:upd H5 p2 (.lst (ys.set m (.ref t5))) p2=some (.lst (ys.set m (.ref t5))):=ah;have h1_6:upd H5 p2 (.lst (ys.set m (.ref t5))) p1=some (.lst (ys.set m (.ref t3))):=by rw [ae n12];exact h1_5
  have h3_6:upd H5 p2 (.lst (ys.set m (.ref t5))) t3=some (.tup [.int (a+1),.int (cs.getD m default).2]):=by rw [ae n32];exact h3_5
  have h5_6:upd H5 p2 (.lst (ys.set m (.ref t5))) t5=some (.tup [.int (cs.getD m default).1,.int a]):=by rw [ae nt2];exact h5
  have e06:Ext H (upd H5 p2 (.lst (ys.set m (.ref t5)))):=e05.put hp2_0;generalize upd H5 p2 (.lst (ys.set m (.ref t5)))=H6 at *;clear h1_5 h2_5 h3_5 h5 e05;intro r H7 hr7 e7 h7;have e07:=e06.trans e7;have al7:=λ (_:Unit)=>(al ()).imp λ _ _ t=>axP.ext t e07;exact k () r p1 p2 H7 hp1_0 hp2_0 e07 h7 ⟨_,e7.at h1_6,pz (al7 ()) ⟨t3,rfl,e7.at h3_6⟩⟩ ⟨_,e7.at h2_6,pz (al7 ()) ⟨t5,rfl,e7.at h5_6⟩⟩
def Kt(H:Hp):Option (List Int)->V->Prop
 | none,v=>v=.non
 | some xs,v=>∃ r,v=.ref r/\H r=some (.lst (xs.map V.int))
abbrev vp  (p:Addr) (g:Int) (q:Addr) (H:Hp) (Q:VK) (E:XK):Prop:=∃ (zs:List Tm3) (cs:Bx),gz H p zs/\du H q cs/\cW zs/\cU zs cs/\∀ v H',Ext H H'->Kt H' (sP zs g cs) v->Q v H'
def AO  : Sp:=λ vs H Q E=>∃ (p:Addr) (g:Int) (q:Addr),vs=[.ref p,.int g,.ref q]/\(vp  p g q H Q E)
theorem Dy  (p:Addr) (g:Int) (q:Addr) (H:Hp) (Q:VK) (E:XK):AO  [.ref p,.int g,.ref q] H Q E=(vp  p g q H Q E):=ni (f:=λ (p:Addr) (g:Int) (q:Addr)=>[.ref p,.int g,.ref q]) (λ _ _ _ _ _ _ h=>by cases h;exact⟨rfl,rfl,rfl⟩) p g q
theorem Dc  {vs:List V}{H:Hp}{Q:VK}{E:XK}(h:AO  vs H Q E):vs.length=3:=nj h λ _ _ _=>rfl
theorem fJ(T:Tx K mg t):bC P w K mg base CX0 4 t.a_numbers_at_once t.d_numbers_at_once ["terms", "goal", "case"] AO:=by
 have G_least_sum:=%[cP|46];have G_greatest_sum:=%[bU|46];refine T.F_numbers_at_once.ok gj (λ vs H Q E h=>Dc h) (λ c A o s H vs Q E hr h=>?_)
 ·obtain⟨p,g,q,rfl,zs,cs,hp,hq,ht,hc,k⟩:=h;refine⟨_,%[%[%[(cg hr.units),%[least_sum,%[%[0|0],%[%[2|0]|1]|1]|3],%[1|0],(ai _)|14],%[%[%[(["bounds", "terms", "goal", "case"]),(1),(aP (aa aQ) ["terms", "goal", "case"] rfl rfl nofun),rfl,%[%[2|0]|24],(λ C s₀ H₀ ex pn=>%[(0),_,(show List.Nodup (["bounds", "terms", "goal", "case"]:List Str) from by decide +kernel),rfl,(Or.inl rfl),%[0|7]|18]),(λ C s₀ H₀ ex pn=>(@aY _)),(λ C s₀ H₀ ex pn=>%[ay,%[0|0],%[0|2],(λ _ _=>rfl)|9]),(by intros;rfl)|26]|13]|11],(@ar _)|16],%[%[%[(cg hr.units),%[greatest_sum,%[%[0|0],%[%[2|0]|1]|1]|3],%[1|0],(ai _)|14],%[%[%[(["bounds", "terms", "goal", "case"]),(1),(aP (aa aQ) ["terms", "goal", "case"] rfl rfl nofun),rfl,%[%[2|0]|24],(λ C s₀ H₀ ex pn=>%[(0),_,(show List.Nodup (["bounds", "terms", "goal", "case"]:List Str) from by decide +kernel),rfl,(Or.inl rfl),%[0|7]|18]),(λ C s₀ H₀ ex pn=>(@aY _)),(λ C s₀ H₀ ex pn=>%[ay,%[0|0],%[0|2],(λ _ _=>rfl)|9]),(by intros;rfl)|26]|13]|11],(@ar _)|16],%[%[(@dM _ _ _)|13]|11]|10]|10],?_⟩;rw [show start ["terms", "goal", "case"] [.ref p,.int g,.ref q]=[some (.ref p),some (.int g),some (.ref q)] from rfl];clear G_least_sum G_greatest_sum;have h17:cs.length<=17:=by rw [hc.len];exact ht.len
  unfold sP at k;have hq0:=hq;obtain⟨ys,hqy,al⟩:=hq0;exists k;exists al;ac_rfl;rw [eK];refine⟨zs,cs,hp,hq,ht,hc,λ H1 e1=>?_⟩
  by_cases h1:bf zs cs=g
  ·rw [K7 h1] at k;have hq1:=e1.at hqy;have wk:=jQ (K:=K) (R:=axP) (λ _ _ _ _ h e=>h.ext e) hq1 ((al ()).imp λ _ _ t=>axP.ext t e1);ac_rfl;refine bM cs (λ _=>true) (λ b=>.int b.1) axP wk.1 wk.2 (az %[0|8]) ?_ ?_
   ·intro D b x H' N1 N0 hb hD e ⟨q',hx,hq'⟩ k1 _;subst hx;have k1':=k1 rfl H' (Ext.refl _);clear k1 k wk;simp! only [↓bW,↓aU]
   intro D H2 hD e2 h2;rw [lE] at h2;have k':=k () (.ref D) H2 (e1.trans e2) ⟨D,rfl,by rw [h2,Mi];rfl⟩;clear k wk h2;ac_rfl
  rw [K5 h1] at k;ac_rfl;rw [gQ];refine⟨zs,cs,bL hp e1,aC hq e1,ht,hc,λ H2 e2=>?_⟩;have e02:=e1.trans e2
  by_cases h2:ck zs cs=g
  ·rw [K7 h2] at k;have hq1:=e02.at hqy;have wk:=jQ (K:=K) (R:=axP) (λ _ _ _ _ h e=>h.ext e) hq1 ((al ()).imp λ _ _ t=>axP.ext t e02);ac_rfl;refine bM cs (λ _=>true) (λ b=>.int b.2) axP wk.1 wk.2 (az %[0|8]) ?_ ?_
   ·intro D b x H' N1 N0 hb hD e ⟨q',hx,hq'⟩ k1 _;subst hx;have k1':=k1 rfl H' (Ext.refl _);clear k1 k wk;simp! only [↓bW,↓aU]
   intro D H3 hD e3 h3;rw [lE] at h3;have k':=k () (.ref D) H3 (e02.trans e3) ⟨D,rfl,by rw [h3,Mi];rfl⟩;clear k wk h3;ac_rfl
  ·rw [K5 h2] at k;have k':=k () .non H2 e02 rfl;clear k;ac_rfl
abbrev jG  (i:Int) (b:Addr) (al:Int) (bg:Int) (H:Hp) (Q:VK) (E:XK):Prop:=∃ c:Int × Int,H b=some (.tup [.int c.1,.int c.2])/\1<=i/\i<=2000000000000000000/\∀ (r:Addr) (H':Hp),H r=none->Ext H H'->H' r=some (.tup [.int (gR i c al bg).1,.int (gR i c al bg).2])->Q (.ref r) H'
def kl  : Sp:=λ vs H Q E=>∃ (i:Int) (b:Addr) (al:Int) (bg:Int),vs=[.int i,.ref b,.int al,.int bg]/\(jG  i b al bg H Q E)
theorem sj  (i:Int) (b:Addr) (al:Int) (bg:Int) (H:Hp) (Q:VK) (E:XK):kl  [.int i,.ref b,.int al,.int bg] H Q E=(jG  i b al bg H Q E):=zT (f:=λ (i:Int) (b:Addr) (al:Int) (bg:Int)=>[.int i,.ref b,.int al,.int bg]) (λ _ _ _ _ _ _ _ _ h=>by cases h;exact⟨rfl,rfl,rfl,rfl⟩) i b al bg
theorem rH  {vs:List V}{H:Hp}{Q:VK}{E:XK}(h:kl  vs H Q E):vs.length=4:=zU h λ _ _ _ _=>rfl
theorem ou(T:Tx K mg t):bC P w K mg base CX0 1 t.a_narrowed t.d_narrowed ["times", "bounds", "above_least", "below_greatest"] kl:=by
 refine T.F_narrowed.ok sx (λ vs H Q E h=>rH h) (λ c A o s H vs Q E hr h=>?_)
 ·obtain⟨i,b,al,bg,rfl,c,hb,i1,i2,k⟩:=h;refine⟨_,%[%[%[%[%[max,(fE rfl),%[%[ay,%[1|0],%[0|2],(λ _ _=>rfl)|9],%[%[aF,%[ay,%[1|0],%[0|2],(λ _ _=>rfl)|9],%[fx,%[3|0],%[0|0]|12]|12]|1]|1]|6],%[%[min,(ef rfl),%[%[ay,%[1|0],%[0|2],(λ _ _=>rfl)|9],%[%[aH,%[ay,%[1|0],%[0|2],(λ _ _=>rfl)|9],%[fx,%[2|0],%[0|0]|12]|12]|1]|1]|6]|1]|1]|17]|13]|11],?_⟩;rw [show start ["times", "bounds", "above_least", "below_greatest"] [.int i,.ref b,.int al,.int bg]=[some (.int i),some (.ref b),some (.int al),some (.int bg)] from rfl];have d1:nA al i:=⟨by omega,by omega⟩;have d2:nA bg i:=⟨by omega,by omega⟩;unfold gR at k;exists k;ac_rfl;intro r H1 hr e1 h1;rw [Int.fdiv_eq_ediv_of_nonneg _ %[0|8],Int.fdiv_eq_ediv_of_nonneg _ %[0|8]] at h1;exact k () r H1 hr e1 h1
def xJ(H:Hp):Option (Nat × Int × Int)->V->Prop
 | none,v=>v=.non
 | some q,v=>∃ r kp,v=.ref r/\H r=some (.tup [.int (q.1:Int),.ref kp])/\H kp=some (.tup [.int q.2.1,.int q.2.2])
theorem xJ.ext{H H':Hp}{o:Option (Nat × Int × Int)}{v:V}(h:xJ H o v)(e:Ext H H'):xJ H' o v:=by
 cases o with
 | none=>exact h
 | some q=>
  obtain⟨r,kp,h1,h2,h3⟩:=h;exact⟨r,kp,h1,e.at h2,e.at h3⟩
theorem xq(zs:List Tm3)(cs:Bx)(al bg:Int)(i:Nat):cE zs cs al bg (i+1)=if (cs.getD i default).1 < (cs.getD i default).2 then (match cE zs cs al bg i with|none=>some (i,gR (zs.getD i default).1 (cs.getD i default) al bg)|some q=>if (gR (zs.getD i default).1 (cs.getD i default) al bg).2 - (gR (zs.getD i default).1 (cs.getD i default) al bg).1 < q.2.2 - q.2.1 then some (i,gR (zs.getD i default).1 (cs.getD i default) al bg) else some q) else cE zs cs al bg i:=rfl
abbrev qr  (p:Addr) (g:Int) (q:Addr) (H:Hp) (Q:VK) (E:XK):Prop:=∃ (zs:List Tm3) (cs:Bx) (b:Nat × Int × Int),gz H p zs/\du H q cs/\cW zs/\cU zs cs/\cE zs cs (g - bf zs cs) (ck zs cs - g) zs.length=some b/\b.1 < zs.length/\∀ (r:Addr) (H':Hp),Ext H H'->H' r=some (.tup [.str "part",.int (b.1:Int),.int (aX cs b)])->Q (.ref r) H'
def tP  : Sp:=λ vs H Q E=>∃ (p:Addr) (g:Int) (q:Addr),vs=[.ref p,.int g,.ref q]/\(qr  p g q H Q E)
theorem zL  (p:Addr) (g:Int) (q:Addr) (H:Hp) (Q:VK) (E:XK):tP  [.ref p,.int g,.ref q] H Q E=(qr  p g q H Q E):=ni (f:=λ (p:Addr) (g:Int) (q:Addr)=>[.ref p,.int g,.ref q]) (λ _ _ _ _ _ _ h=>by cases h;exact⟨rfl,rfl,rfl⟩) p g q
theorem yJ  {vs:List V}{H:Hp}{Q:VK}{E:XK}(h:tP  vs H Q E):vs.length=3:=nj h λ _ _ _=>rfl
theorem qT(T:Tx K mg t):bC P w K mg base CX0 4 t.a_parting t.d_parting ["terms", "goal", "case"] tP:=by
 have G_least_sum:=%[cP|46];have G_greatest_sum:=%[bU|46];have G_narrowed:=%[ou|46];refine T.F_parting.ok bw (λ vs H Q E h=>yJ h) (λ c A o s H vs Q E hr h=>?_)
 ·obtain⟨p,g,q,rfl,zs,cs,b,hp,hq,ht,hc,hb,hbl,k⟩:=h;refine⟨_,%[%[3,bw,%[aF,%[1|0],%[least_sum,%[%[0|0],%[%[2|0]|1]|1]|3]|12]|4],%[%[4,bw,%[aF,%[greatest_sum,%[%[0|0],%[%[2|0]|1]|1]|3],%[1|0]|12]|4],%[%[5,bw,(@dM _ _ _)|4],%[%[Lv,rfl,(@BG _ _ _ _ _ _ _ _ ∅ T.z_enumerate %[%[2|0]|1] ∅),(%[(2),rfl,%[%[6,bw|5],%[%[7,bw|5],(@aB _),∅|15],∅|15],∅,∅|22].mono λ _ _ _ _ h=>aZ h),%[%[%[cD,%[ay,%[7|0],%[0|2],(λ _ _=>rfl)|9],%[ay,%[7|0],%[0|2],(λ _ _=>rfl)|9],(ai _)|14],%[%[8,bw,%[narrowed,%[%[ay,%[ay,%[0|0],%[6|0],(λ _ _=>rfl)|9],%[0|2],(λ _ _=>rfl)|9],%[%[7|0],%[%[3|0],%[%[4|0]|1]|1]|1]|1]|3]|4],%[%[(PW.pt %[%[uh,%[5|0],(@dM _ _ _),(ai _)|14],%[%[cD,%[aF,%[ay,%[8|0],%[0|2],(λ _ _=>rfl)|9],%[ay,%[8|0],%[0|2],(λ _ _=>rfl)|9]|12],%[aF,%[ay,%[ay,%[5|0],%[0|2],(λ _ _=>rfl)|9],%[0|2],(λ _ _=>rfl)|9],%[ay,%[ay,%[5|0],%[0|2],(λ _ _=>rfl)|9],%[0|2],(λ _ _=>rfl)|9]|12],(ai _)|14]|29]|21]),%[%[5,bw,%[%[%[6|0],%[%[8|0]|1]|1]|17]|4]|11],(@ar _)|16]|11]|10],(@ar _)|16]|11],(by intros;rfl)|30],%[%[6,bw,%[ay,%[5|0],%[0|2],(λ _ _=>rfl)|9]|4],%[%[8,bw,%[ay,%[5|0],%[0|2],(λ _ _=>rfl)|9]|4],%[%[%[cD,%[ay,%[8|0],%[0|2],(λ _ _=>rfl)|9],%[ay,%[ay,%[2|0],%[6|0],(λ _ _=>rfl)|9],%[0|2],(λ _ _=>rfl)|9],(ai _)|14],%[%[%[%[(@bH _ _ _ _),%[%[6|0],%[%[ay,%[8|0],%[0|2],(λ _ _=>rfl)|9]|1]|1]|1]|17]|13]|11],(@ar _)|16],%[%[%[dR,%[ay,%[8|0],%[0|2],(λ _ _=>rfl)|9],%[ay,%[ay,%[2|0],%[6|0],(λ _ _=>rfl)|9],%[0|2],(λ _ _=>rfl)|9],(ai _)|14],%[%[%[%[(@bH _ _ _ _),%[%[6|0],%[%[aF,%[ay,%[8|0],%[0|2],(λ _ _=>rfl)|9],%[0|2]|12]|1]|1]|1]|17]|13]|11],(@ar _)|16],%[%[%[%[(@bH _ _ _ _),%[%[6|0],%[%[ay,%[ay,%[2|0],%[6|0],(λ _ _=>rfl)|9],%[0|2],(λ _ _=>rfl)|9]|1]|1]|1]|17]|13]|11]|10]|10]|10]|10]|10]|10]|10]|10],?_⟩;rw [show start ["terms", "goal", "case", "above_least", "below_greatest", "best", "k", "bounds", "kept"] [.ref p,.int g,.ref q]=[some (.ref p),some (.int g),some (.ref q),none,none,none,none,none,none] from rfl];clear G_least_sum G_greatest_sum G_narrowed;have h17:=ht.len;have hcl:=hc.len;obtain⟨xs,hpx,alp⟩:=hp;obtain⟨ys,hqy,alq⟩:=hq;have hp:gz H p zs:=⟨xs,hpx,alp⟩;have hq:du H q cs:=⟨ys,hqy,alq⟩;have hyl:ys.length=cs.length:=alq.1
  have tl:∀ i,i < zs.length->1<=(zs.getD i default).1/\(zs.getD i default).1<=2000000000000000000:=λ i hi=>by
   rw [Lb,KU hi];exact(ht.all _ (Mm hi)).1
  exists k;exists tl;exists alp;exists alq;exists hyl;exists hcl;exists hb;ac_rfl;rw [eK];refine⟨zs,cs,hp,hq,ht,hc,λ H1 e1=>?_⟩;ac_rfl;rw [gQ];refine⟨zs,cs,bL hp e1,aC hq e1,ht,hc,λ H2 e2=>?_⟩;have e02:=e1.trans e2;have hq2:=e02.at hqy;clear e1 e2;ac_rfl;generalize g - bf zs cs=al at *;generalize ck zs cs - g=bg at *;refine zv (xs:=ys) (λ i σ H'=>∃ (vb:V) (v6 v7 v8:Option V),σ=[some (.ref p),some (.int g),some (.ref q),some (.int al),some (.int bg),some vb,v6,v7,v8]/\Ext H H'/\xJ H' (cE zs cs al bg i) vb) ⟨.non,none,none,none,rfl,e02,rfl⟩ (λ i σ H' ⟨_,_,_,_,_,e,_⟩=>e.at hqy) ?_ ?_
  ·rintro i u pp _ H3 H4 hi ⟨vb,v6,v7,v8,rfl,e3,bv⟩ hpp e4 h4;have hic:i < cs.length:=by have:=(K0.mp hi).1;have:=hyl ();omega
   have hiz:i < zs.length:=by have:=hcl ();omega
   obtain⟨c1,c2,hu⟩:=fq (alq ()) hic;rw [LF,cZ hi] at c2;cases c2;obtain⟨z1,z2,hz⟩:=lL (alp ()) hiz;rw [LF] at z2;have e04:=e3.trans e4;have hu4:=e04.at hu;have hz4:=e04.at hz;have hp4:=e04.at hpx;have tli:=tl () i hiz;have bv4:=λ (_:Unit)=>bv.ext e4;have bs:=xq zs cs al bg i;generalize cE zs cs al bg (i+1)=o1 at *;generalize cE zs cs al bg i=o0 at *;generalize zs.getD i default=zi at *;generalize cs.getD i default=ci at *;exists bs;clear bv hi hpp hu hz k hb hq2
   by_cases hlt:ci.1 < ci.2
   ·have bs':=bs ();rw [K7 hlt] at bs';exists bs';clear bs;simp! only [↓aE];rw [sj];refine⟨ci,hu4,tli.1,tli.2,λ r5 H5 hr5 e5 h5=>?_⟩;have e05:=e04.trans e5;generalize gR zi.1 ci al bg=nr at *;clear hr5
    cases o0 with
    | none=>
     have hvb:vb=.non:=bv4 ();subst hvb;have bs2:o1=some (i,nr):=bs' ();clear bs' bv4;ac_rfl;intro r6 H6 _ e6 h6;refine⟨_,_,_,_,rfl,e05.trans e6,?_⟩;exact⟨r6,r5,rfl,h6,e6.at h5⟩
    | some q0=>
     obtain⟨rb,kb,hvb,hrb,hkb⟩:=bv4 ();subst hvb;have hrb5:=e5.at hrb;have hkb5:=e5.at hkb;have bs2:o1=if nr.2 - nr.1 < q0.2.2 - q0.2.1 then some (i,nr) else some q0:=bs' ()
     exists bs2;clear bs' bv4 hrb hkb
     by_cases hl2:nr.2 - nr.1 < q0.2.2 - q0.2.1
     ·have bs3:=bs2 ();rw [K7 hl2] at bs3;exists bs3;clear bs2;ac_rfl;intro r6 H6 _ e6 h6;refine⟨_,_,_,_,rfl,e05.trans e6,?_⟩;rw [bs3 ()];exact⟨r6,r5,rfl,h6,e6.at h5⟩
     ·have bs3:=bs2 ();rw [K5 hl2] at bs3;exists bs3;clear bs2;ac_rfl;refine⟨_,_,_,_,rfl,e05,?_⟩;rw [bs3 ()];exact⟨rb,kb,rfl,hrb5,hkb5⟩
   ·have bs':=bs ();rw [K5 hlt] at bs';exists bs';clear bs;simp! only [↓aE];exact⟨_,_,_,_,rfl,e04,by rw [bs' ()];exact bv4 ()⟩
  ·rintro _ H3 ⟨vb,v6,v7,v8,rfl,e3,bv⟩;rw [hyl (),hcl (),hb ()] at bv;obtain⟨rb,kb,hvb,hrb,hkb⟩:=bv;subst hvb;have hbc:b.1 < cs.length:=by have:=hcl ();omega
   obtain⟨c1,c2,hu⟩:=fq (alq ()) hbc;rw [LF] at c2;have hu3:=e3.at hu;have hq3:=e3.at hqy;have hpk:∀ x,(if b.2.2 < (cs.getD b.1 default).2 then b.2.2 else if (cs.getD b.1 default).1 < b.2.1 then b.2.1 - 1 else (cs.getD b.1 default).1)=x->aX cs b=x:=λ x h=>h;generalize aX cs b=pk at *;generalize cs.getD b.1 default=cb at *;exists hpk;clear hu hq2
   by_cases h1:b.2.2 < cb.2
   ·ac_rfl;intro r4 H4 _ e4 h4;exact k () r4 H4 (e3.trans e4) (by rw [h4,hpk () b.2.2 (by rw [K7 h1])])
   by_cases h2:cb.1 < b.2.1
   ·ac_rfl;intro r4 H4 _ e4 h4;exact k () r4 H4 (e3.trans e4) (by rw [h4,hpk () (b.2.1 - 1) (by rw [K5 h1,K7 h2])])
   ·ac_rfl;intro r4 H4 _ e4 h4;exact k () r4 H4 (e3.trans e4) (by rw [h4,hpk () cb.1 (by rw [K5 h1,K5 h2])])
theorem zG(xs:List V)(z:Int)(h:0<=z):jg xs (some z) none=xs.drop z.toNat:=by
 unfold jg;obtain⟨n,rfl⟩:=Int.eq_ofNat_of_zero_le h;rw [HT.sIx_none,HT.sIx_nat]
 show _=xs.drop n
 rcases NY n xs.length with q|q
 ·rw [NB q];exact Ma (by rw [M1];omega)
 ·rw [Nn q,MS (K3 _),MS q,List.take_nil]
theorem G7(xs:List V)(z:Int)(h:0<=z):jg xs none (some z)=xs.take z.toNat:=by
 unfold jg;obtain⟨n,rfl⟩:=Int.eq_ofNat_of_zero_le h;rw [HT.sIx_none,HT.sIx_nat,List.drop_zero,Nat.sub_zero]
 show xs.take (min n xs.length)=xs.take n
 rcases NY n xs.length with q|q
 ·rw [NB q]
 ·rw [Nn q,Mw,Ma q]
def DL(kvs:List (Key × V))(L:Int->Int):Prop:=∀ t,(dr kvs (.inl t)).getD (.int 0)=.int (L t)
theorem DL.nil:DL [] (λ _=>0):=λ _=>rfl
theorem DL.put{kvs:List (Key × V)}{L:Int->Int}(h:DL kvs L)(a v:Int):DL (df kvs (.inl a) (.int v)) (qG L a v):=λ t=>by
 rw [kg];unfold qG
 by_cases e:t=a
 ·rw [K7 e,K7 (by rw [e])];rfl
 ·rw [K5 e,K5 (λ q=>e (by cases q;rfl))];exact h t
theorem mj{z:Tm3}{x:Int}:∀ {zs:List Tm3}{xs:List Int},xs.length=zs.length->(∀ y∈zs,¬ y.1=z.1)->cn (zs++[z]) (xs++[x])=qG (cn zs xs) z.1 (x - z.2.1)
 | [],[],_,_=>funext λ t=>by
  show (if z.1=t then x - z.2.1 else 0)=if t=z.1 then x - z.2.1 else 0
  by_cases e:z.1=t
  ·rw [K7 e,K7 e.symm]
  ·rw [K5 e,K5 (λ q=>e q.symm)]
 | [],_::_,h,_=>by simp at h
 | _::_,[],h,_=>by simp at h
 | y::zs,u::xs,h,hn=>funext λ t=>by
  have ih:=congrFun (mj (z:=z) (x:=x) (zs:=zs) (xs:=xs) (by simpa using h) λ w hw=>hn w (KZ _ hw)) t;have hy:=hn y K1
  show (if y.1=t then u - y.2.1 else cn (zs++[z]) (xs++[x]) t)=if t=z.1 then x - z.2.1 else if y.1=t then u - y.2.1 else cn zs xs t
  rw [ih];unfold qG
  by_cases e:t=z.1
  ·rw [K7 e,K7 e,K5 (λ q=>hy (q.trans e))]
  ·rw [K5 e,K5 e]
theorem pU{κ:Type}[DecidableEq κ](kvs:List (κ × V))(k:κ)(v:V):(df kvs k v).length<=kvs.length+1:=by
 unfold df;split
 ·rw [K2];omega
 ·rw [K4,K9];exact K3 _
abbrev mR(C:Addr)(u:Addr)(v:Addr)(p:Addr)(q:Addr)(H:Hp)(Q:VK)(E:XK):Prop:=∃ (r1 r2 f1 f2:Int) (A B:List (Int × Int)) (zs:List Tm3) (xs:List Int),bj C H u r1 f1 A/\bj C H v r2 f2 B/\A.length<=8/\B.length<=8/\gz H p zs/\zs.length<=17/\(zs.map λ z=>z.1).Nodup/\H q=some (.lst (xs.map V.int))/\xs.length=zs.length/\∀ (r a1 a2:Addr) (H':Hp),Ext H H'->H' r=some (.tup [.str "shared",.ref a1,.ref a2])->H' a1=some (.tup (((eU (cn zs xs) (ak A B)).take A.length).map V.int))->H' a2=some (.tup (((eU (cn zs xs) (ak A B)).drop A.length).map V.int))->Q (.ref r) H'
def nQ(C:Addr):Sp:=λ vs H Q E=>∃ (u:Addr) (v:Addr) (p:Addr) (q:Addr),vs=[.ref u,.ref v,.ref p,.ref q]/\(mR C u v p q H Q E)
theorem xl(C:Addr)(u:Addr)(v:Addr)(p:Addr)(q:Addr)(H:Hp)(Q:VK)(E:XK):nQ C [.ref u,.ref v,.ref p,.ref q] H Q E=(mR C u v p q H Q E):=zT (f:=λ (u:Addr) (v:Addr) (p:Addr) (q:Addr)=>[.ref u,.ref v,.ref p,.ref q]) (λ _ _ _ _ _ _ _ _ h=>by cases h;exact⟨rfl,rfl,rfl,rfl⟩) u v p q
theorem wL(C:Addr){vs:List V}{H:Hp}{Q:VK}{E:XK}(h:nQ C vs H Q E):vs.length=4:=zU h λ _ _ _ _=>rfl
theorem eR(T:Tx K mg t):bC P w K mg base CX0 2 t.a_places_by_numbers t.d_places_by_numbers ["one", "other", "terms", "numbers"] (nQ t.a_View):=by
 have G_pulls:=%[pZ|46];refine T.F_places_by_numbers.ok av (λ vs H Q E h=>wL _ h) (λ cdv A' outer s H vs Q E hr h=>?_)
 ·obtain⟨u,v,p,q,rfl,r1,r2,f1,f2,A,B,zs,xs,vu,vv,hA,hB,⟨ts,hp,al⟩,h17,hnd,hq,hxl,k⟩:=h;obtain⟨dx,lx,hu,⟨ax,hax,alA⟩⟩:=vu.ob;have c1:=T.cl_View;have c3:=T.na_View_axes;have g1:=dj r1 f1 lx;refine⟨_,%[%[4,av,(@gJ _ _)|4],%[%[PassesOwn.never,rfl,%[∅,T.z_zip,%[%[2|0],%[%[3|0]|1]|1],∅,∅|39],(%[(2),rfl,%[%[5,av|5],%[%[6,av|5],(@aB _),∅|15],∅|15],∅,∅|22].mono λ _ _ _ _ h=>aZ h),%[%[(cG hr.units),%[4|0],%[ay,%[5|0],%[0|2],(λ _ _=>rfl)|9],%[aF,%[6|0],%[ay,%[5|0],%[0|2],(λ _ _=>rfl)|9]|12],rfl|42]|11],(by intros;rfl)|30],%[%[7,av,%[(@cc _)|23]|4],%[%[PassesOwn.never,rfl,%[%[pulls,%[%[0|0],%[%[1|0]|1]|1]|3]|24],(%[(2),rfl,%[%[8,av|5],%[%[9,av|5],(@aB _),∅|15],∅|15],∅,∅|22].mono λ _ _ _ _ h=>aZ h),%[%[10,av,%[min,(ef rfl),%[%[aF,%[9|0],%[0|2]|12],%[%[(cG hr.units),%[4|0],%[abs,bQ,%[%[8|0]|1]|6],%[0|2],⟨by rfl,by rfl,by rfl,by rfl⟩|44]|1]|1]|6]|4],%[%[(cG hr.units),%[4|0],%[abs,bQ,%[%[8|0]|1]|6],%[aF,%[(cG hr.units),%[4|0],%[abs,bQ,%[%[8|0]|1]|6],%[0|2],⟨by rfl,by rfl,by rfl,by rfl⟩|44],%[10|0]|12],rfl|42],%[%[%[PySem.F.plainAttrs_list,PySem.F.slot_list_append,PySem.F.type_list_append,cu,%[7|0],%[(@kH _ _ _ _ _ _ _ _ %[AV,%[8|0],%[0|2],(ai _)|14] %[10|0] %[aF,%[aF,%[9|0],%[0|2]|12],%[10|0]|12])|1],∅,∅,∅,∅,∅|38],∅|34]|11]|10]|10],(by intros;rfl)|30],%[%[11,av,%[len,aw,%[%[%[0|0],rfl|35]|1]|6]|4],%[%[%[%[(@bH _ _ _ _),%[(@fA _ _ _ _ _ _ _ _ _ iN ∅ T.z_tuple nofun %[%[DH,%[7|0],(@eX _),(@eW _ _ _ %[11|0])|40]|1] ⋯ ⋯ ∅ ∅),%[(@fA _ _ _ _ _ _ _ _ _ iN ∅ T.z_tuple nofun %[%[DH,%[7|0],(@eW _ _ _ %[11|0]),(@eX _)|40]|1] ⋯ ⋯ ∅ ∅)|1]|1]|1]|17]|13]|11]|10]|10]|10]|10]|10],?_⟩;rw [show start ["one", "other", "terms", "numbers", "left", "term", "number", "place", "pace", "size", "taken", "many"] [.ref u,.ref v,.ref p,.ref q]=[some (.ref u),some (.ref v),some (.ref p),some (.ref q),none,none,none,none,none,none,none,none] from rfl];clear G_pulls;have haxl:ax.length=A.length:=by rw [alA.1];unfold axL;rw [length_map]
  have htl:ts.length=zs.length:=al.1;exists k;exists hnd;exists al;exists haxl;exists htl;exists hxl;ac_rfl;intro d H1 hd1 e1 h1;have hp1:=e1.at hp;have hq1:=e1.at hq;have hd0:=hd1;clear hd1;ac_rfl;refine u4 (ka:=false) (kb:=false) (xs:=ts) (ys:=xs.map V.int) (λ i σ H'=>∃ (kvs:List (Key × V)) (v5 v6:Option V),σ=[some (.ref u),some (.ref v),some (.ref p),some (.ref q),some (.ref d),v5,v6,none,none,none,none,none]/\Ext H H'/\H' d=some (.dK kvs)/\kvs.length<=i/\DL kvs (cn (zs.take i) (xs.take i))) ⟨[],none,none,rfl,e1,h1,K3 _,DL.nil⟩ (λ i σ H' ⟨_,_,_,_,e,_⟩=>⟨e.at hp,e.at hq⟩) ?_ ?_
  ·rintro i x y w' _ H2 H3 hx hy ⟨kvs,v5,v6,rfl,e2,h2,hkl,dl⟩ hw e3 h3;have hiz:i < zs.length:=by have:=(K0.mp hx).1;have:=htl ();omega
   have hzi:zs[i]? = some zs[i]:=KU hiz;obtain⟨tq,rfl,htq⟩:=(al ()).2 i zs[i] x hzi hx;rw [Lh] at hy;obtain⟨n,hn,rfl⟩:=Lm.mp hy;have hz1:zs.take (i+1)=zs.take i++[zs[i]]:=by rw [M3,hzi];rfl
   have hx1:xs.take (i+1)=xs.take i++[n]:=by rw [M3,hn];rfl
   have hnew:∀ y∈zs.take i,¬ y.1=zs[i].1:=λ y hy e=>by
    obtain⟨j,hj⟩:=NC.mp hy;have hjl:j < i:=by have:=(K0.mp hj).1;rw [LW] at this;omega
    rw [List.getElem?_take_of_lt hjl] at hj;have hne:=List.pairwise_iff_getElem.mp (hnd ()) j i (by rw [K2];omega) (by rw [K2];omega) hjl;rw [List.getElem_map,List.getElem_map] at hne;have hj':zs[j]' %[0|8]=y:=by have:=K0.mp hj;exact this.2
    exact hne (by rw [hj'];exact e)
   have hls:=mj (z:=zs[i]) (x:=n) (zs:=zs.take i) (xs:=xs.take i) (by rw [LW,LW,hxl ()]) hnew;rw [←hz1,←hx1] at hls;have dl':=dl.put zs[i].1 (n - zs[i].2.1);rw [←hls] at dl';have e03:=e2.trans e3;have ht3:=e03.at htq;have h2_3:=e3.at h2;have hkl':=pU kvs (Sum.inl zs[i].1:Key) (.int (n - zs[i].2.1));have lk:kvs.length < sizeLine:=dY %[0|8];generalize zs[i]=z at *;generalize cn (zs.take (i+1)) (xs.take (i+1))=L1 at *;exists dl';clear hx hy hzi hn hz1 hx1 hnew hls dl htq h2 k e2 e3 hp1 hq1 h1 e1;simp! only [↓aE];refine gk (k:=.inl z.1) h2_3 lk ?_;exact⟨_,_,_,rfl,e03.put hd0,ah,by omega,dl' ()⟩
  ·rintro _ H2 ⟨kvs,v5,v6,rfl,e2,h2,hkl,dl⟩;have hmn:min ts.length (xs.map V.int).length=zs.length:=by rw [K2,htl (),hxl ()];exact Nat.min_self _
   rw [hmn,take_length,take_of_length_le (by rw [hxl ()];exact Nat.le_refl _)] at dl;rw [hmn] at hkl;have hPl:(ak A B).length=A.length+B.length:=by unfold ak;rw [length_append,length_map,length_map]
   clear hp1 hq1 h1 e1 hmn hnd al;ac_rfl;intro pl H3 hpl e3 h3;have e03:=e2.trans e3;have h2_3:=e3.at h2;have hpl0:H pl=none:=e2.free hpl;have ndp:d ≠ pl:=λ z=>by rw [z,hpl] at h2;cases h2
   clear hpl h2 e3;ac_rfl;rw [my];refine⟨r1,r2,f1,f2,A,B,vu.ext e03,vv.ext e03,hA,hB,λ r H4 hr4 e4 t4=>?_⟩;obtain⟨ys,hy4,aly⟩:=t4;have e04:=e03.trans e4;have h2_4:=e4.at h2_3;have h3_4:=e4.at h3;have nrd:r ≠ d:=λ z=>by rw [z,h2_3] at hr4;cases hr4
   have nrp:r ≠ pl:=λ z=>by rw [z,h3] at hr4;cases hr4
   have hyl:ys.length=(ak A B).length:=aly.1;generalize ak A B=P' at *;generalize cn zs xs=L0 at *;exists aly;exists hyl;exists hPl;exists dl;clear hr4 h2_3 h3 e4;ac_rfl;refine ed (xs:=ys) (λ i σ H'=>∃ (kvs:List (Key × V)) (L:Int->Int) (ps:List Int) (v8 v9 v10:Option V),σ=[some (.ref u),some (.ref v),some (.ref p),some (.ref q),some (.ref d),v5,v6,some (.ref pl),v8,v9,v10,none]/\Ext H H'/\(∀ b o,b ≠ d->b ≠ pl->H4 b=some o->H' b=some o)/\H' d=some (.dK kvs)/\H' pl=some (.lst (ps.map V.int))/\kvs.length<=17+i/\ps.length=i/\DL kvs L/\eU L0 P'=ps++eU L (P'.drop i)) ⟨kvs,L0,[],none,none,none,rfl,e04,λ _ _ _ _ h=>h,h2_4,h3_4,by omega,rfl,dl (),rfl⟩ (λ i σ H' _ ⟨_,_,_,_,_,_,_,_,kp,_⟩=>kp r _ nrd nrp hy4) ?_ ?_
   ·rintro i y _ H5 hi ⟨kvs,L,ps,v8,v9,v10,rfl,e5,kp,h5d,h5p,hkl5,hps,dl5,hfill⟩;have hiP:i < P'.length:=by have:=(K0.mp hi).1;have:=hyl ();omega
    obtain⟨tq,rfl,htq⟩:=(aly ()).2 i P'[i] y (KU hiP) hi;have ht5:=kp tq _ (λ e=>by rw [e,h2_4] at htq;cases htq) (λ e=>by rw [e,h3_4] at htq;cases htq) htq;rw [Nd hiP] at hfill
    have hf2:eU L0 P'=(ps++[if 0<=P'[i].1 then tkF P'[i] L else P'[i].2 - 1 - tkF P'[i] L])++eU (qG L (ag P'[i].1) (L (ag P'[i].1) - tkF P'[i] L)) (P'.drop (i+1)):=by
     rw [hfill,MB];rfl
    have hP16:=hPl ();have b1:=dl5 (ag P'[i].1);have dl6:=dl5.put (ag P'[i].1) (L (ag P'[i].1) - tkF P'[i] L);have hkl':=pU kvs (Sum.inl (ag P'[i].1):Key) (.int (L (ag P'[i].1) - tkF P'[i] L));have lk:kvs.length < sizeLine:=dY %[0|8];have lp:ps.length < sizeLine:=dY %[0|8]
    have habs:(if P'[i].1 < 0 then -P'[i].1 else P'[i].1)=ag P'[i].1:=by unfold ag;split<;>omega
    have htk:(if L (ag P'[i].1) < P'[i].2 - 1 then L (ag P'[i].1) else P'[i].2 - 1)=tkF P'[i] L:=rfl;generalize P'[i]=z at *;exists hf2;exists hps;exists dl6;clear hfill dl5 hi htq k hy4 h2_4 h3_4 e04 e03 e2 dl;simp! only [↓aE];refine eV h5d ?_;ac_rfl;refine gW (k:=.inl (ag z.1)) h5d ?_;rw [b1];ac_rfl;refine eV h5d ?_;ac_rfl;refine gW (k:=.inl (ag z.1)) h5d ?_;rw [b1];ac_rfl;refine gk (k:=.inl (ag z.1)) h5d lk ?_;have h6d:upd H5 d (.dK (df kvs (.inl (ag z.1)) (.int (L (ag z.1) - tkF z L)))) d=some (.dK (df kvs (.inl (ag z.1)) (.int (L (ag z.1) - tkF z L)))):=ah;have h6p:upd H5 d (.dK (df kvs (.inl (ag z.1)) (.int (L (ag z.1) - tkF z L)))) pl=some (.lst (ps.map V.int)):=by rw [ae (Lw ndp)];exact h5p
    have e06:Ext H (upd H5 d (.dK (df kvs (.inl (ag z.1)) (.int (L (ag z.1) - tkF z L))))):=e5.put hd0;have kp6:∀ b o,b ≠ d->b ≠ pl->H4 b=some o->upd H5 d (.dK (df kvs (.inl (ag z.1)) (.int (L (ag z.1) - tkF z L)))) b=some o:=λ b o x1 x2 h=>by rw [ae x1];exact kp b o x1 x2 h
    generalize upd H5 d (.dK (df kvs (.inl (ag z.1)) (.int (L (ag z.1) - tkF z L))))=H6 at *;exists kp6;clear h5d h5p kp e5 ht5
    by_cases hz0:0<=z.1
    ·have hf3:=hf2 ();rw [K7 hz0] at hf3;exists hf3;clear hf2;ac_rfl;exact⟨_,_,ps++[tkF z L],_,_,_,rfl,e06.put hpl0,λ b o x1 x2 h=>by rw [ae x2];exact kp6 () b o x1 x2 h,by rw [ae ndp];exact h6d,by rw [Mb];rfl,by omega,by rw [K4,K9,hps ()],dl6 (),hf3 ()⟩
    ·have hf3:=hf2 ();rw [K5 hz0] at hf3;exists hf3;clear hf2;ac_rfl;exact⟨_,_,ps++[z.2 - 1 - tkF z L],_,_,_,rfl,e06.put hpl0,λ b o x1 x2 h=>by rw [ae x2];exact kp6 () b o x1 x2 h,by rw [ae ndp];exact h6d,by rw [Mb];rfl,by omega,by rw [K4,K9,hps ()],dl6 (),hf3 ()⟩
   ·rintro _ H5 ⟨kvs,L,ps,v8,v9,v10,rfl,e5,kp,h5d,h5p,hkl5,hps,dl5,hfill⟩;rw [hyl (),N4] at hfill;have hfe:eU L0 P'=ps:=by rw [hfill];show ps++[]=ps;rw [MG]
    rw [hfe] at k;have hu5:=e5.at hu;have hax5:=e5.at hax;have ct:=G7 (ps.map V.int) (A.length:Int) %[0|8];have cf:=zG (ps.map V.int) (A.length:Int) %[0|8];rw [LK] at ct cf;have hal:(ax.length:Int)=(A.length:Int):=by rw [haxl ()]
    clear kp h5d hkl5 dl5 hfill hfe aly hy4 h2_4 h3_4;ac_rfl;intro q6 H6 _ e6 h6;clear hu5 hax5;have h5p6:=e6.at h5p;ac_rfl;intro q7 H7 _ e7 h7;have h5p7:=e7.at h5p6;ac_rfl;intro q8 H8 _ e8 h8;have h7_8:=e8.at h7;ac_rfl;intro q9 H9 _ e9 h9;have h7_9:=e9.at h7_8;ac_rfl;intro r10 H10 _ e10 h10;exact k () r10 q7 q9 H10 (e5.trans (e6.trans (e7.trans (e8.trans (e9.trans e10))))) h10 (by rw [e10.at h7_9,List.map_take]) (by rw [e10.at h9,List.map_drop])
theorem j8{n:Nat}(h:n<=100000):n<=sizeLine:=LU h ⋯
theorem GN{n:Nat}(h:n < 100000):n < sizeLine:=Le h ⋯
def CsV(H:Hp)(cA pA:Addr)(c:Bx)(y:V):Prop:=∃ a,y=.ref a/\a ≠ cA/\a ≠ pA/\du H a c
def dq(H:Hp)(cA pA:Addr):List Bx->List V->Prop
 | [],cl=>cl=[]
 | c::st,cl=>∃ cl0 y,cl=cl0++[y]/\CsV H cA pA c y/\dq H cA pA st cl0
theorem CsV.ext{H H':Hp}{cA pA:Addr}{c:Bx}{y:V}(h:CsV H cA pA c y)(e:Ext H H'):CsV H' cA pA c y:=by
 obtain⟨a,h1,h2,h3,h4⟩:=h;exact⟨a,h1,h2,h3,aC h4 e⟩
theorem dq.ext{H H':Hp}{cA pA:Addr}(e:Ext H H'):∀ {st:List Bx}{cl:List V},dq H cA pA st cl->dq H' cA pA st cl
 | [],_,h=>h
 | _::_,_,⟨cl0,y,h1,h2,h3⟩=>⟨cl0,y,h1,h2.ext e,dq.ext e h3⟩
theorem CsV.upd{H:Hp}{cA pA b:Addr}{c:Bx}{y:V}{xs:List V}{o:HO}(h:CsV H cA pA c y)(hb:H b=some (.lst xs))(hb2:b=cA\/b=pA):CsV (upd H b o) cA pA c y:=by
 obtain⟨a,h1,h2,h3,ys,h4,al⟩:=h
 have hne:a ≠ b:=λ e=>by
  rcases hb2 with q|q
  ·exact h2 (e.trans q)
  ·exact h3 (e.trans q)
 exact⟨a,h1,h2,h3,ys,by rw [ae hne];exact h4,al.imp λ _ _ t=>axP.upd t hb⟩
theorem dq.upd{H:Hp}{cA pA b:Addr}{xs:List V}{o:HO}(hb:H b=some (.lst xs))(hb2:b=cA\/b=pA):∀ {st:List Bx}{cl:List V},dq H cA pA st cl->dq (upd H b o) cA pA st cl
 | [],_,h=>h
 | _::_,_,⟨cl0,y,h1,h2,h3⟩=>⟨cl0,y,h1,h2.upd hb hb2,dq.upd hb hb2 h3⟩
theorem dq.len{H:Hp}{cA pA:Addr}:∀ {st:List Bx}{cl:List V},dq H cA pA st cl->cl.length=st.length
 | [],_,h=>by have h':_=[]:=h;rw [h'];rfl
 | _::_,_,⟨cl0,y,h1,_,h3⟩=>by rw [h1,K4,dq.len h3];rfl
theorem vy(ks:List Int)(P:List (Int × Int)):(af ks P).map (λ z=>z.1)=ks:=by
 unfold af;rw [map_map];exact List.map_id ks
theorem zb{zs:List Tm3}{c:Bx}{xs:List Int}(h:cU zs c)(hx:InB c xs):InB (zs.map λ z=>z.2) xs:=by
 refine uX hx (by rw [K2,h.len]) λ i hi=>?_;have hz:i < zs.length:=by rw [←h.len];exact hi
 have:=h.at hz
 have e:(zs.map λ z=>z.2).getD i default=(zs.getD i default).2:=by
  rw [Lb,Lb,Lh,KU hz];rfl
 rw [e];exact⟨this.1,this.2.2⟩
theorem qc{zs:List Tm3}(h:cW zs):cU zs (zs.map λ z=>z.2):=by
 refine cU.of (by rw [K2]) λ i hi=>?_
 have e:(zs.map λ z=>z.2).getD i default=(zs.getD i default).2:=by
  rw [Lb,Lb,Lh,KU hi];rfl
 have hm:zs.getD i default=zs[i]:=by rw [Lb,KU hi];rfl
 rw [e,hm];have:=(h.all _ (Mm hi)).2.2.1;exact⟨Lp _,by omega,Lp _⟩
def plF(ks:List Int)(P:List (Int × Int))(xs:List Int):List Int:=eU (cn (af ks P) xs) P
theorem xv.upd{H:Hp}{s:List V}{v:V}{b:Addr}{xs:List V}{o:HO}(h:xv H s v)(hb:H b=some (.lst xs)):xv (upd H b o) s v:=by
 obtain⟨r,h1,h2⟩:=h;exact⟨r,h1,by rw [ae (λ e=>by rw [e,hb] at h2;cases h2)];exact h2⟩
def nu(H:Hp)(pp:List (List V))(ys:List V):Prop:=Al (λ s y=>xv H s y) pp ys
theorem nu.ext{H H':Hp}{pp:List (List V)}{ys:List V}(h:nu H pp ys)(e:Ext H H'):nu H' pp ys:=Al.imp h λ _ _ t=>xv.ext t e
theorem nu.upd{H:Hp}{pp:List (List V)}{ys:List V}{b:Addr}{xs:List V}{o:HO}(h:nu H pp ys)(hb:H b=some (.lst xs)):nu (upd H b o) pp ys:=Al.imp h λ _ _ t=>xv.upd t hb
theorem nu.snoc{H:Hp}{pp:List (List V)}{ys:List V}{s:List V}{r:Addr}(h:nu H pp ys)(hr:H r=some (.tup s)):nu H (pp++[s]) (ys++[.ref r]):=fO h (Al.cons' ⟨r,rfl,hr⟩ Al.nil)
def jT(H:Hp)(a:Addr)(pp:List (List V)):Prop:=∃ ys,H a=some (.lst ys)/\nu H pp ys
structure J9(A B:List (Int × Int))(g most:Int):Prop where
 tm:∀ ks,jh ks (ak A B)->cW (af ks (ak A B))/\∃ pf,HZ (af ks (ak A B)) g pf/\pf ((af ks (ak A B)).map λ z=>z.2)<=60000/\pf ((af ks (ak A B)).map λ z=>z.2)<=most
structure lJ(A B:List (Int × Int))(g most:Int)(ks:List Int)(o:Option (List Int))(pp:List (List V)):Prop where
 kok:jh ks (ak A B)
 sh:∀ xs,o=some xs->InP (ak A B) (plF ks (ak A B) xs)/\sQ (ak A B) (plF ks (ak A B) xs)=g
 ap:o=none->Rep (af ks (ak A B)) g [(af ks (ak A B)).map λ z=>z.2] pp []/\(pp.length:Int)<=most/\pp.length<=60000
def ShV(H0 H:Hp)(r:Addr)(n:Nat)(ks:List Int)(P:List (Int × Int))(pp:List (List V)):Option (List Int)->Prop
 | some xs=>∃ a1 a2,H r=some (.tup [.str "shared",.ref a1,.ref a2])/\H a1=some (.tup (((plF ks P xs).take n).map V.int))/\H a2=some (.tup (((plF ks P xs).drop n).map V.int))
 | none=>∃ a1,H0 a1=none/\H r=some (.tup [.str "apart",.ref a1])/\jT H a1 pp
abbrev jE(C:Addr)(u:Addr)(v:Addr)(m:Int)(H:Hp)(Q:VK)(E:XK):Prop:=∃ (room f1 f2:Int) (A B:List (Int × Int)),bj C H u room f1 A/\bj C H v room f2 B/\oW A/\oW B/\1<=m/\m<=100000/\J9 A B (f2 - f1) m/\∀ (ks:List Int) (o:Option (List Int)) (pp:List (List V)) (r:Addr) (H':Hp),Ext H H'->lJ A B (f2 - f1) m ks o pp->ShV H H' r A.length ks (ak A B) pp o->Q (.ref r) H'
def ki(C:Addr):Sp:=λ vs H Q E=>∃ (u:Addr) (v:Addr) (m:Int),vs=[.ref u,.ref v,.int m]/\(jE C u v m H Q E)
theorem dk(C:Addr)(u:Addr)(v:Addr)(m:Int)(H:Hp)(Q:VK)(E:XK):ki C [.ref u,.ref v,.int m] H Q E=(jE C u v m H Q E):=ni (f:=λ (u:Addr) (v:Addr) (m:Int)=>[.ref u,.ref v,.int m]) (λ _ _ _ _ _ _ h=>by cases h;exact⟨rfl,rfl,rfl⟩) u v m
theorem rF(C:Addr){vs:List V}{H:Hp}{Q:VK}{E:XK}(h:ki C vs H Q E):vs.length=3:=nj h λ _ _ _=>rfl
theorem vJ(T:Tx K mg t):bC P w K mg base CX0 5 t.a_shares t.d_shares ["one", "other", "most"] (ki t.a_View):=by
 have G_gathered:=%[iH|46];have G_is_whole:=%[cx|46];have G_first_case:=%[fF|46];have G_end_of:=%[vK|46];have G_numbers_at_once:=%[fJ|46];have G_places_by_numbers:=%[eR|46];have G_parting:=%[qT|46];have G_parted:=%[md|46];refine T.F_shares.ok bz (λ vs H Q E h=>rF _ h) (λ cdv A' outer s H vs Q E hr h=>?_)
 ·obtain⟨u,v,most,rfl,room,f1,f2,A,B,vu,vv,hA,hB,m1,m2,sh,k⟩:=h;refine⟨_,%[%[3,bz,%[gathered,%[%[0|0],%[%[1|0]|1]|1]|3]|4],%[%[(PW.pt %[%[%[%[is_whole,%[%[2|0]|1]|3],(by intros;rfl)|19]|20],%[%[cD,%[2|0],%[0|2],(ai _)|14],%[%[dR,%[2|0],(@j6 _ _ (.int 100000) _ _ ∅ T.m_MOST_CASES.choose_spec ⟨_,rfl⟩ ⋯),(ai _)|14]|29]|21]|21]),%[(@gI _ _)|11],(@ar _)|16],%[%[4,bz,%[ay,%[3|0],%[0|2],(λ _ _=>rfl)|9]|4],%[%[5,bz,%[ay,%[3|0],%[0|2],(λ _ _=>rfl)|9]|4],%[%[6,bz,%[%[%[first_case,%[%[4|0]|1]|3]|1]|23]|4],%[%[7,bz,%[(@cc _)|23]|4],%[%[8,bz,%[0|2]|4],%[(@kF _ _ _ _ _ _ PassesOwn.leaving %[dR,%[len,aw,%[%[6|0]|1]|6],%[0|2],(ai _)|14] %[%[%[(cg hr.units),%[8|0],%[2|0],(ai _)|14],%[%[%[%[(@bH _ _ _ _)|1]|17]|13]|11],(@ar _)|16],%[%[8,bz,%[aH,%[8|0],%[0|2]|12]|4],%[%[9,bz,%[Li,Ny,Nx,uj,%[6|0],∅,∅|43]|4],%[%[10,bz,%[end_of,%[%[4|0],%[%[5|0],%[%[9|0]|1]|1]|1]|3]|4],%[%[%[uh,%[10|0],(@dM _ _ _),(ai _)|14],%[%[11,bz,%[numbers_at_once,%[%[4|0],%[%[5|0],%[%[9|0]|1]|1]|1]|3]|4],%[%[%[yj,%[11|0],(@dM _ _ _),(ai _)|14],%[%[%[places_by_numbers,%[%[0|0],%[%[1|0],%[%[4|0],%[%[11|0]|1]|1]|1]|1]|3]|13]|11],(@ar _)|16],%[%[10,bz,%[parting,%[%[4|0],%[%[5|0],%[%[9|0]|1]|1]|1]|3]|4],%[%[%[Li,PySem.F.slot_list_extend,PySem.F.type_list_extend,mh,%[6|0],%[%[parted,%[%[9|0],%[%[ay,%[10|0],%[0|2],(λ _ _=>rfl)|9],%[%[ay,%[10|0],%[0|2],(λ _ _=>rfl)|9]|1]|1]|1]|3]|1],∅,∅,∅,∅,∅|38],∅|34]|11]|10]|10]|10],(@ar _)|16],%[%[%[Li,L3,LZ,cu,%[7|0],%[%[10|0]|1],∅,∅,∅,∅,∅|38],∅|34]|11]|10]|10]|10]|10]|10]),%[%[%[%[(@bH _ _ _ _),%[%[7|0]|1]|1]|17]|13]|11]|10]|10]|10]|10]|10]|10]|10]|10],?_⟩;rw [show start ["one", "other", "most", "found", "terms", "goal", "cases", "paper", "looked", "case", "step", "numbers"] [.ref u,.ref v,.int most]=[some (.ref u),some (.ref v),some (.int most),none,none,none,none,none,none,none,none,none] from rfl];clear G_gathered G_is_whole G_first_case G_end_of G_numbers_at_once G_places_by_numbers G_parting G_parted
  have hsz:∀ z∈ak A B,(1:Int)<=z.2:=λ z hz=>by
   unfold ak at hz
   rcases Lu.mp hz with hz|hz
   ·obtain⟨a,ha,rfl⟩:=Lo.mp hz;exact(hA.2 a ha).1
   ·obtain⟨a,ha,rfl⟩:=Lo.mp hz;exact(hB.2 a ha).1
  exists k;exists sh;exists hsz;ac_rfl;rw [qj];refine⟨room,f1,f2,A,B,vu,vv,hA,hB,λ ks l r0 H1 e1 hr1 t1 ko=>?_⟩;obtain⟨ht,pf,hPf,hM,hm⟩:=(sh ()).tm ks ko
  have hkz:∀ z∈ak A B,ag z.1=0\/ag z.1∈ks:=λ z hz=>by
   by_cases e:ag z.1=0
   ·exact .inl e
   ·exact .inr ((ko.mem _).mpr ⟨e,z,hz,rfl⟩)
  have hz1:∀ z∈af ks (ak A B),(1:Int)<=z.1:=λ z hz=>(ht.all z hz).1.1;have hnd:((af ks (ak A B)).map λ z=>z.1).Nodup:=by rw [vy];exact ko.nd
  have hfin:∀ xs pp,InB ((af ks (ak A B)).map λ z=>z.2) xs->jd (af ks (ak A B)) xs=f2 - f1->lJ A B (f2 - f1) most ks (some xs) pp:=λ xs pp h2 h3=>by
   obtain⟨i1,i2⟩:=meet ko.nd (hsz ()) hkz h2;exact⟨ko,(λ ys e=>by cases e;exact⟨i1,i2.trans h3⟩),λ e=>by cases e⟩
  have hfin0:∀ pp,Rep (af ks (ak A B)) (f2 - f1) [(af ks (ak A B)).map λ z=>z.2] pp []->(pp.length:Int)<=pf ((af ks (ak A B)).map λ z=>z.2)->lJ A B (f2 - f1) most ks none pp:=λ pp h2 h3=>⟨ko,(λ ys e=>by cases e),λ _=>⟨h2,by omega,by omega⟩⟩
  have ini:StI (af ks (ak A B)) (f2 - f1) pf ((af ks (ak A B)).map λ z=>z.2) (pf ((af ks (ak A B)).map λ z=>z.2)) [(af ks (ak A B)).map λ z=>z.2] 0 []:=by
   have ep:iX pf [(af ks (ak A B)).map λ z=>z.2]=pf ((af ks (ak A B)).map λ z=>z.2)+0:=rfl;exact⟨λ c hc=>by rw [Ln.mp hc];exact qc ht,by rw [ep];omega,rfl,rfl⟩
  have hF1:=hPf.one _ (qc ht);have hA8:=hA.1;have hB8:=hB.1;have hpf:∀ xs,eU (cn (af ks (ak A B)) xs) (ak A B)=plF ks (ak A B) xs:=λ _=>rfl;generalize af ks (ak A B)=zs at *;generalize hMe:pf (zs.map λ z=>z.2)=M at *;clear hMe;have h17:=ht.len;exists ini;exists hz1;exists hnd;exists hfin;exists hfin0;exists hpf;have hm1:¬ most < 1:=by omega
  have hm2:¬ 100000 < most:=by omega
  exists hPf;clear sh hsz hkz ko;simp! only [↓bR];rw [jD];refine⟨zs,t1,h17,λ c0 H2 e2 p2=>?_⟩;have hr2:=e2.at hr1;ac_rfl;intro cA H3 hcA e3 h3;have ncA:c0 ≠ cA:=λ z=>by obtain⟨_,hh,_⟩:=p2;rw [z,hcA] at hh;cases hh
  ac_rfl;intro pA H4 hpA e4 h4;have npA:c0 ≠ pA:=λ z=>by obtain⟨_,hh,_⟩:=p2;rw [z] at hh;rw [e3.at hh] at hpA;cases hpA
  have ncp:cA ≠ pA:=λ z=>by rw [z] at h3;rw [h3] at hpA;cases hpA
  have e14:=e2.trans (e3.trans e4);have hcA1:H1 cA=none:=e2.free hcA;have hpA1:H1 pA=none:=(e2.trans e3).free hpA;have h3_4:=e4.at h3;have stk0:dq H4 cA pA [zs.map λ z=>z.2] [.ref c0]:=⟨[],.ref c0,rfl,⟨c0,rfl,ncA,npA,aC p2 (e3.trans e4)⟩,rfl⟩;exists stk0;clear hcA hpA p2 hr2 h3 e2 e3 e4;ac_rfl;refine nB (by repeat' first|exact A2|exact uo|exact mo_nI|apply kI|apply mo_unN|exact o9|exact HA|exact pd|exact mo_rI|exact mo_rIsN|exact mo_rNotN|exact uk|exact mo_qIx|exact um|exact nZ|apply j7|apply mo_tB|apply mo_not|apply mo_and|apply mo_or|apply A3|apply mo_un|apply oa|apply mo_qLst|apply A4) (λ mm σ H'=>∃ (st:List Bx) (cl pl:List V) (pp:List (List V)) (lk:Int) (v9 v10 v11:Option V),σ=[some (.ref u),some (.ref v),some (.int most),some (.ref r0),some (.ref l),some (.int (f2 - f1)),some (.ref cA),some (.ref pA),some (.int lk),v9,v10,v11]/\mm=(iX pf st).toNat/\Ext H1 H'/\H' cA=some (.lst cl)/\H' pA=some (.lst pl)/\nu H' pp pl/\dq H' cA pA st cl/\StI zs (f2 - f1) pf (zs.map λ z=>z.2) M st lk pp) _ ⟨[zs.map λ z=>z.2],[.ref c0],[],[],0,none,none,none,rfl,rfl,e14,h3_4,h4,Al.nil,stk0 (),ini ()⟩ ?_;rintro mm _ H5 ⟨st,cl,pl,pp,lk,v9,v10,v11,rfl,rfl,e5,h5c,h5p,hpl,stk,hI⟩
  cases st with
  | nil=>
   have hcl:cl=[]:=stk;subst hcl;obtain⟨q2,q3⟩:=hI.done;have hres:=hfin0 () pp q2 q3;exists hres;exists hpl;have hpA0:H pA=none:=e1.free hpA1;clear hI q2 q3 hfin hfin0 stk ini stk0;ac_rfl;intro r6 H6 _ e6 h6;exact k () ks none pp r6 H6 (e1.trans (e5.trans e6)) (hres ()) ⟨pA,hpA0,h6,_,e6.at h5p,(hpl ()).ext e6⟩
  | cons c st=>
   obtain⟨cl0,y,rfl,hcy,stk'⟩:=stk;obtain⟨hlt,hc,hend,hgo⟩:=hI.step (hz1 ()) (hPf ());obtain⟨a,rfl,nac,nap,pa⟩:=hcy;have hokS:∀ d∈st,cU zs d:=λ d hd=>hI.ok d (KZ _ hd);have hpn:=uf (hPf ()) hokS;have hv1:=(hPf ()).one c hc;have hpot:=hI.pot;have hlk0:0<=lk:=by have:=hI.len;omega
   have ep:iX pf (c::st)=pf c+iX pf st:=rfl;have hcl0:=stk'.len;have hlkm:¬ lk=most:=by omega
   have hplk:pl.length < sizeLine:=GN (by have:=hI.len;have:=hpl.1;omega);have hext:cl0.length+2<=sizeLine:=j8 %[0|8];have hdec:(iX pf st).toNat < (iX pf (c::st)).toNat:=by omega
   obtain⟨cl,hcl⟩:∃ cl,cl0++[V.ref a]=cl:=⟨_,rfl⟩;have hlen:0 < (cl.length:Int):=by rw [←hcl,K4,K9];omega
   have hlast:cl[cl.length - 1]? = some (.ref a):=by rw [←hcl,K4,K9,MP,Lk (K3 _),M5];rfl
   have hdrop:cl.dropLast=cl0:=by rw [←hcl,NG]
   rw [hcl] at h5c;have cs6:=CsV.upd (o:=.lst cl0) (c:=c) (y:=.ref a) ⟨a,rfl,nac,nap,pa⟩ h5c (.inl rfl);have st6:=dq.upd (o:=.lst cl0) h5c (.inl rfl) stk';have e6:Ext H1 (upd H5 cA (.lst cl0)):=e5.put hcA1;have h6c:upd H5 cA (.lst cl0) cA=some (.lst cl0):=ah;have h6p:upd H5 cA (.lst cl0) pA=some (.lst pl):=by rw [ae (Lw ncp)];exact h5p
   have pl6:nu (upd H5 cA (.lst cl0)) pp pl:=hpl.upd h5c;exists pl6;exists hend;exists hgo;exists hI;exists hpn;exists hdec;exists ep;exists hpot;exists hcl0;exists st6;clear stk' pa hcl hokS h3_4 h4 stk0 ini e14 hfin0 hpl;ac_rfl;generalize upd H5 cA (.lst cl0)=H6 at *;clear h5c h5p e5 hlen hlast hdrop;obtain⟨a',ha',_,_,pa6⟩:=cs6;cases ha';rw [xk];refine⟨zs,c,bL t1 e6,pa6,ht,hc,λ v7 H7 e7 hv7=>?_⟩;have e17:=e6.trans e7;have h7c:=e7.at h6c;have h7p:=e7.at h6p;have st7:=λ (_:Unit)=>(st6 ()).ext e7;have pa7:=aC pa6 e7;have pl7:=λ (_:Unit)=>(pl6 ()).ext e7
   cases hee:zV zs c (f2 - f1) with
   | some ss=>
    rw [hee] at hv7;obtain⟨r7,rfl,hr7⟩:=hv7;have hI':=λ (_:Unit)=>hend () ss hee;have plN:=λ (_:Unit)=>nu.upd (o:=.lst (pl++[.ref r7])) ((pl7 ()).snoc hr7) h7p;clear hend hgo h6c h6p st6 e6 pa6 hee k pl6 pl7;ac_rfl;exact⟨(iX pf st).toNat,hdec (),st,cl0,pl++[.ref r7],_,lk+1,_,_,_,rfl,rfl,e17.put hpA1,(by first|rfl|(rw [ae ncp];exact h7c)),(by first|rfl|exact ah),plN (),dq.upd h7p (.inr rfl) (st7 ()),hI' ()⟩
   | none=>
    rw [hee] at hv7;have hv7':v7=.non:=hv7;subst hv7';obtain⟨hg1,hg2⟩:=hgo () hee;exists hg1;exists hg2;clear hend hgo h6c h6p st6 e6 pa6 hee pl6;ac_rfl;rw [Dy];refine⟨zs,c,bL t1 e17,pa7,ht,hc,λ v8 H8 e8 hv8=>?_⟩;have e18:=e17.trans e8;have h8c:=e8.at h7c;have h8p:=e8.at h7p;have st8:=λ (_:Unit)=>(st7 ()).ext e8;have pl8:=λ (_:Unit)=>(pl7 ()).ext e8;have pa8:=aC pa7 e8;clear h7c h7p st7 pa7 pl7
    cases hna:sP zs (f2 - f1) c with
    | some xs=>
     rw [hna] at hv8;obtain⟨r8,rfl,hr8⟩:=hv8;obtain⟨q2,q3⟩:=hg1 () xs hna;have hin:=zb hc q2;have hres:=hfin () xs pp hin q3;have hxl:xs.length=zs.length:=by rw [hin.len,K2]
     exists hres;exists hxl;clear hg1 hg2 hna q2 q3 hin hfin pl8;ac_rfl;rw [xl];refine⟨room,room,f1,f2,A,B,zs,xs,vu.ext (e1.trans e18),vv.ext (e1.trans e18),hA8,hB8,bL t1 e18,h17,hnd (),hr8,hxl (),λ r9 a1 a2 H9 e9 w1 w2 w3=>?_⟩;rw [hpf ()] at w2 w3;have k':=k () ks (some xs) pp r9 H9 (e1.trans (e18.trans e9)) (hres ()) ⟨a1,a2,w1,w2,w3⟩;clear k;ac_rfl
    | none=>
     rw [hna] at hv8;have hv8':v8=.non:=hv8;subst hv8';obtain⟨q,hq1,hq2,hpv,hI'⟩:=hg2 () hna;exists hI';have hqc:q.1 < c.length:=by rw [hc.len];exact hq2
     have hc17:c.length<=17:=by rw [hc.len];exact h17
     have hdec2:(iX pf (loC c q.1 (aX c q)::upC c q.1 (aX c q)::st)).toNat < (iX pf (c::st)).toNat:=by
      have e2':iX pf (loC c q.1 (aX c q)::upC c q.1 (aX c q)::st)=pf (loC c q.1 (aX c q))+(pf (upC c q.1 (aX c q))+iX pf st):=rfl;have:=ep ();have:=(hpn ()).1;omega
     exists hdec2;clear hg1 hg2 hna hfin hpv k;ac_rfl;rw [zL];refine⟨zs,c,q,bL t1 e18,pa8,ht,hc,hq1,hq2,λ r9 H9 e9 h9=>?_⟩;have e19:=e18.trans e9;have h9c:=e9.at h8c;have h9p:=e9.at h8p;have st9:=λ (_:Unit)=>(st8 ()).ext e9;have pl9:=λ (_:Unit)=>((pl8 ()).ext e9).snoc h9;have pa9:=aC pa8 e9;clear h8c h8p st8 pa8 pl8;ac_rfl;rw [jA];refine⟨c,q.1,rfl,pa9,hqc,hc17,λ r10 a1 a2 H10 n1 n2 e10 h10 p1 p2=>?_⟩;have e110:=e19.trans e10;have h10c:=e10.at h9c;have h10p:=e10.at h9p;have st10:=(st9 ()).ext e10;have pl11:=λ (_:Unit)=>nu.upd (o:=.lst (cl0++[.ref a1,.ref a2])) ((pl9 ()).ext e10) h10c;have m1c:a1 ≠ cA:=λ z=>by rw [z,h9c] at n1;cases n1
     have m1p:a1 ≠ pA:=λ z=>by rw [z,h9p] at n1;cases n1
     have m2c:a2 ≠ cA:=λ z=>by rw [z,h9c] at n2;cases n2
     have m2p:a2 ≠ pA:=λ z=>by rw [z,h9p] at n2;cases n2
     have stN:dq H10 cA pA (loC c q.1 (aX c q)::upC c q.1 (aX c q)::st) (cl0++[.ref a1,.ref a2]):=⟨cl0++[.ref a1],.ref a2,by rw [MB];rfl,⟨a2,rfl,m2c,m2p,p2⟩,cl0,.ref a1,rfl,⟨a1,rfl,m1c,m1p,p1⟩,st10⟩;have stM:=dq.upd (o:=.lst (cl0++[.ref a1,.ref a2])) h10c (.inl rfl) stN;have h11p:upd H10 cA (.lst (cl0++[.ref a1,.ref a2])) pA=some (.lst pl):=by rw [ae (Lw ncp)];exact h10p
     have h11c:upd H10 cA (.lst (cl0++[.ref a1,.ref a2])) cA=some (.lst (cl0++[.ref a1,.ref a2])):=ah;have e111:Ext H1 (upd H10 cA (.lst (cl0++[.ref a1,.ref a2]))):=e110.put hcA1;exists stM;clear h9c h9p st9 pa9 n1 n2 st10 stN p1 p2 h10p pl9;ac_rfl;generalize upd H10 cA (.lst (cl0++[.ref a1,.ref a2]))=H11 at *;clear h10c;ac_rfl;exact⟨_,hdec2 (),_,_,pl++[.ref r9],_,lk+1,_,_,_,rfl,rfl,e111.put hpA1,(by first|rfl|(rw [ae ncp];exact h11c)),(by first|rfl|exact ah),nu.upd (pl11 ()) h11p,dq.upd h11p (.inr rfl) (stM ()),hI' ()⟩
theorem Bj{K:W.Frag}{ka kb:Bool}{H:Hp}{α β:Type}{R1:α->V->Hp->Prop}{R2:β->V->Hp->Prop}(h1:∀ z y H H',R1 z y H->Ext H H'->R1 z y H')(h2:∀ z y H H',R2 z y H->Ext H H'->R2 z y H'){a b:Addr}{xs ys:List V}{zs:List α}{ws:List β}(ha:SqK ka H a xs)(hb:SqK kb H b ys)(al:Al (λ z y=>R1 z y H) zs xs)(bl:Al (λ z y=>R2 z y H) ws ys) :
  (∀ i z H',(zs.zip ws)[i]? = some z->Ext H H'->(Itz ka kb a b xs ys).go i H'/\∀ x H'',(Itz ka kb a b xs ys).yld i H' x H''->Ext H' H''/\AG R1 R2 z x H'')/\∀ H',Ext H H'->(Itz ka kb a b xs ys).stop (zs.zip ws).length H':=by
 have wk:=Ac (ka:=ka) (kb:=kb) ha hb;refine⟨λ i z H' hz e=>?_,λ H' e=>?_⟩
 ·obtain⟨i1,i2⟩:=K0.mp hz;rw [Mc] at i1;have hx:xs[i]? = some (xs[i]'(by rw [al.1];omega)):=KU _;have hy:ys[i]? = some (ys[i]'(by rw [bl.1];omega)):=KU _;have g1:=al.2 i zs[i] _ (KU _) hx;have g2:=bl.2 i ws[i] _ (KU _) hy;generalize (xs[i]'(by rw [al.1];omega))=x0 at hx g1;generalize (ys[i]'(by rw [bl.1];omega))=y0 at hy g2
  have hzz:(xs.zip ys)[i]? = some (x0,y0):=by
   rw [LS];exact⟨hx,hy⟩
  obtain⟨go,yd⟩:=wk.1 i _ H' hzz e;refine⟨go,λ x H'' y=>?_⟩;obtain⟨e2,p,hp,hp2⟩:=yd x H'' y;have ez:z=(zs[i],ws[i]):=by rw [←i2,N3]
  subst ez;exact⟨e2,p,x0,y0,hp,hp2,h1 _ _ _ _ g1 (e.trans e2),h2 _ _ _ _ g2 (e.trans e2)⟩
 ·have:=wk.2 H' e
  rwa [show (zs.zip ws).length=(xs.zip ys).length by rw [Mc,Mc,al.1,bl.1]]
def cF:List (Int × Int)->List Int->Int
 | a::A,y::ys=>a.2 * y+cF A ys
 | _,_=>0
theorem qe:∀ (A:List (Int × Int)) (ys:List Int),((ys.zip A).map λ z=>z.1 * z.2.2).sum=cF A ys
 | [],[]=>rfl
 | [],_::_=>rfl
 | _::_,[]=>rfl
 | a::A,y::ys=>by
  rw [MW,LG,NN,qe A ys]
  show y * a.2+_=a.2 * y+_
  rw [LM]
abbrev mP  (f:Int) (q:Addr) (p:Addr) (H:Hp) (Q:VK) (E:XK):Prop:=∃ (A:List (Int × Int)) (ys:List Int),du H q A/\H p=some (.tup (ys.map V.int))/\A.length<=8/\(∀ a∈A,-100000000000000000<=a.2/\a.2<=100000000000000000)/\∀ H',Ext H H'->Q (.int (f+cF A ys)) H'
def nO  : Sp:=λ vs H Q E=>∃ (f:Int) (q:Addr) (p:Addr),vs=[.int f,.ref q,.ref p]/\(mP  f q p H Q E)
theorem mB  (f:Int) (q:Addr) (p:Addr) (H:Hp) (Q:VK) (E:XK):nO  [.int f,.ref q,.ref p] H Q E=(mP  f q p H Q E):=ni (f:=λ (f:Int) (q:Addr) (p:Addr)=>[.int f,.ref q,.ref p]) (λ _ _ _ _ _ _ h=>by cases h;exact⟨rfl,rfl,rfl⟩) f q p
theorem wJ  {vs:List V}{H:Hp}{Q:VK}{E:XK}(h:nO  vs H Q E):vs.length=3:=nj h λ _ _ _=>rfl
theorem mY(T:Tx K mg t):bC P w K mg base CX0 1 t.a__law_cell t.d__law_cell ["_law_first", "_law_axes_here", "_law_place"] nO:=by
 refine T.F__law_cell.ok oT (λ vs H Q E h=>wJ h) (λ cdv A' outer s H vs Q E hr h=>?_)
 ·obtain⟨f,q,p,rfl,A,ys,⟨ts,hq,al⟩,hp,h8,hb,k⟩:=h;refine⟨_,%[%[%[aH,%[0|0],%[sum,(cv rfl),%[%[(["_law_at", "_law_axis", "_law_first", "_law_axes_here", "_law_place"]),(2),(aP (aa dF) ["_law_first", "_law_axes_here", "_law_place"] rfl rfl nofun),rfl,%[∅,T.z_zip,%[%[2|0],%[%[1|0]|1]|1],∅,∅|39],(λ C s₀ H₀ ex pn=>(%[(2),rfl,%[%[(0),_,(show List.Nodup (["_law_at", "_law_axis", "_law_first", "_law_axes_here", "_law_place"]:List Str) from by decide +kernel),rfl,(Or.inl rfl),%[0|7]|18],%[%[(1),_,(show List.Nodup (["_law_at", "_law_axis", "_law_first", "_law_axes_here", "_law_place"]:List Str) from by decide +kernel),rfl,(Or.inl rfl),%[0|7]|18],(@aB _),∅|15],∅|15],∅,∅|22].mono λ _ _ _ _ h=>aZ h)),(λ C s₀ H₀ ex pn=>(@aY _)),(λ C s₀ H₀ ex pn=>%[bh,%[0|0],%[ay,%[1|0],%[0|2],(λ _ _=>rfl)|9]|12]),(by intros;rfl)|26]|1]|6]|12]|13]|11],?_⟩;rw [show start ["_law_first", "_law_axes_here", "_law_place"] [.int f,.ref q,.ref p]=[some (.int f),some (.ref q),some (.ref p)] from rfl];have wk:=Bj (K:=K) (ka:=true) (kb:=false) (R1:=λ (z:Int) y (_:Hp)=>y=.int z) (R2:=axP) (λ _ _ _ _ h _=>h) (λ _ _ _ _ h e=>h.ext e) (zs:=ys) (ws:=A) hp hq ⟨by rw [K2],λ i z y hz hy=>by rw [Lh,hz] at hy;cases hy;rfl⟩ al;exists k;exists hb;ac_rfl;refine bM (ys.zip A) (λ _=>true) (λ z=>.int (z.1 * z.2.2)) (AG (λ (z:Int) y (_:Hp)=>y=.int z) axP) wk.1 wk.2 (az (by rw [Mc];omega)) ?_ ?_
  ·intro D z x H' N1 N0 hz hD e hx k1 _;obtain⟨p1,q1,q2,rfl,hp1,rfl,q3,rfl,hq3⟩:=hx;have k1':N1 (.int (z.1 * z.2.2)) H':=k1 rfl H' (Ext.refl _);have hz2:=hb () z.2 (M9 (show (z.1,z.2)∈ys.zip A from hz)).2;have cm:gS z.1 z.2.2:=.inr ⟨by omega,by omega⟩;clear k1 wk k hz;simp! only [↓b7,↓aU]
  ·intro D H1 hD e1 h1;have h1':H1 D=some (.lst (((ys.zip A).map λ z=>z.1 * z.2.2).map V.int)):=by rw [h1,lE,Mi];rfl
   have hsum:=qe A ys;have k':=k () H1 e1;rw [←hsum] at k';clear k wk h1 hsum;ac_rfl
def InA:List (Int × Int)->List Int->Prop
 | [],[]=>True
 | a::A,y::ys=>(0<=y/\y < a.1)/\InA A ys
 | _,_=>False
theorem InA.len:∀ {A:List (Int × Int)}{ys:List Int},InA A ys->ys.length=A.length
 | [],[],_=>rfl
 | [],_::_,h=>h.elim
 | _::_,[],h=>h.elim
 | _::_,_::_,h=>L6 (· + 1) (InA.len h.2)
theorem InA.at:∀ {A:List (Int × Int)}{ys:List Int}{i:Nat}{a:Int × Int}{y:Int},InA A ys->A[i]? = some a->ys[i]? = some y->0<=y/\y < a.1
 | a::A,y::ys,0,b,z,h,h1,h2=>by cases h1;cases h2;exact h.1
 | a::A,y::ys,i+1,b,z,h,h1,h2=>InA.at h.2 (by simpa using h1) (by simpa using h2)
 | [],_,_,_,_,_,h1,_=>by simp at h1
 | _::_,[],_,_,_,h,_,_=>h.elim
abbrev mO  (p:Addr) (q:Addr) (H:Hp) (Q:VK) (E:XK):Prop:=∃ (A:List (Int × Int)) (ys:List Int),du H q A/\H p=some (.tup (ys.map V.int))/\A.length<=8/\InA A ys/\∀ H',Ext H H'->Q (.bl true) H'
def nN  : Sp:=λ vs H Q E=>∃ (p:Addr) (q:Addr),vs=[.ref p,.ref q]/\(mO  p q H Q E)
theorem mz  (p:Addr) (q:Addr) (H:Hp) (Q:VK) (E:XK):nN  [.ref p,.ref q] H Q E=(mO  p q H Q E):=sJ (f:=λ (p:Addr) (q:Addr)=>[.ref p,.ref q]) (λ _ _ _ _ h=>by cases h;exact⟨rfl,rfl⟩) p q
theorem wI  {vs:List V}{H:Hp}{Q:VK}{E:XK}(h:nN  vs H Q E):vs.length=2:=sL h λ _ _=>rfl
theorem gB(T:Tx K mg t):bC P w K mg base CX0 2 t.a__law_is_place t.d__law_is_place ["_law_place", "_law_axes_here"] nN:=by
 have G__law_whole:=%[dJ|46];refine T.F__law_is_place.ok cz (λ vs H Q E h=>wI h) (λ cdv A' outer s H vs Q E hr h=>?_)
 ·obtain⟨p,q,rfl,A,ys,⟨ts,hq,al⟩,hp,h8,hin,k⟩:=h;refine⟨_,%[%[(PW.pt %[%[%[%[isinstance,aK,%[%[0|0],%[%[(.ty "tuple"),(.type "tuple"),_,∅,T.z_tuple,nofun,rfl,⋯,⋯|32]|1]|1]|6],(by intros;rfl)|19]|20],%[%[(cH hr.units),%[len,aw,%[%[0|0]|1]|6],%[len,aw,%[%[1|0]|1]|6],(ai _)|14]|29]|21]),%[%[(@cC _ _ _ _)|13]|11],(@ar _)|16],%[%[Lv,rfl,%[∅,T.z_zip,%[%[0|0],%[%[1|0]|1]|1],∅,∅|39],(%[(2),rfl,%[%[2,cz|5],%[%[3,cz|5],(@aB _),∅|15],∅|15],∅,∅|22].mono λ _ _ _ _ h=>aZ h),%[%[(PW.pt %[%[%[%[_law_whole,%[%[2|0]|1]|3],(by intros;rfl)|19]|20],%[%[%[i7,cD,%[0|2],%[2|0],%[ay,%[3|0],%[0|2],(λ _ _=>rfl)|9],∅|45]|20]|29]|21]),%[%[(@cC _ _ _ _)|13]|11],(@ar _)|16]|11],(by intros;rfl)|30],%[%[(@cC _ _ _ _)|13]|11]|10]|10],?_⟩;rw [show start ["_law_place", "_law_axes_here", "_law_at", "_law_axis"] [.ref p,.ref q]=[some (.ref p),some (.ref q),none,none] from rfl];clear G__law_whole;have htl:ts.length=A.length:=al.1;have hyl:=hin.len;have hll:(ys.length:Int)=(ts.length:Int):=by omega
  exists k;exists al;exists hin;exists htl;exists hyl;ac_rfl;refine u4 (ka:=true) (kb:=false) (xs:=ys.map V.int) (ys:=ts) (λ i σ H'=>∃ v2 v3:Option V,σ=[some (.ref p),some (.ref q),v2,v3]/\Ext H H') ⟨none,none,rfl,Ext.refl _⟩ (λ i σ H' ⟨_,_,_,e⟩=>⟨e.at hp,e.at hq⟩) ?_ ?_
  ·rintro i x y w' _ H2 H3 hx hy ⟨v2,v3,rfl,e2⟩ hw e3 h3;rw [Lh] at hx;obtain⟨n,hn,rfl⟩:=Lm.mp hx;have hiA:i < A.length:=by have:=(K0.mp hy).1;have:=htl ();omega
   obtain⟨tq,rfl,htq⟩:=(al ()).2 i A[i] y (KU hiA) hy;obtain⟨n0,n1⟩:=(hin ()).at (KU hiA) hn;have e03:=e2.trans e3;have ht3:=e03.at htq;generalize A[i]=b at *;clear hx hy hn hw k htq e2 e3;simp! only [↓aE,↓bR];exact⟨_,_,rfl,e03⟩
  ·rintro _ H2 ⟨v2,v3,rfl,e2⟩;have k':=k () H2 e2;clear k;ac_rfl
abbrev qw  (x:Addr) (p:Addr) (q:Addr) (g:Int) (H:Hp) (Q:VK) (E:XK):Prop:=∃ (A B:List (Int × Int)) (ys zs:List Int) (a1 a2:Addr),H x=some (.tup [.str "shared",.ref a1,.ref a2])/\H a1=some (.tup (ys.map V.int))/\H a2=some (.tup (zs.map V.int))/\du H p A/\du H q B/\A.length<=8/\B.length<=8/\InA A ys/\InA B zs/\(∀ a∈A,-100000000000000000<=a.2/\a.2<=100000000000000000)/\(∀ a∈B,-100000000000000000<=a.2/\a.2<=100000000000000000)/\cF A ys=g+cF B zs/\∀ H',Ext H H'->Q (.bl true) H'
def tS  : Sp:=λ vs H Q E=>∃ (x:Addr) (p:Addr) (q:Addr) (g:Int),vs=[.ref x,.ref p,.ref q,.int g]/\(qw  x p q g H Q E)
theorem kR  (x:Addr) (p:Addr) (q:Addr) (g:Int) (H:Hp) (Q:VK) (E:XK):tS  [.ref x,.ref p,.ref q,.int g] H Q E=(qw  x p q g H Q E):=zT (f:=λ (x:Addr) (p:Addr) (q:Addr) (g:Int)=>[.ref x,.ref p,.ref q,.int g]) (λ _ _ _ _ _ _ _ _ h=>by cases h;exact⟨rfl,rfl,rfl,rfl⟩) x p q g
theorem yM  {vs:List V}{H:Hp}{Q:VK}{E:XK}(h:tS  vs H Q E):vs.length=4:=zU h λ _ _ _ _=>rfl
theorem iI(T:Tx K mg t):bC P w K mg base CX0 3 t.a__law_met t.d__law_met ["_law_found", "_law_one", "_law_other", "_law_goal"] tS:=by
 have G__law_is_place:=%[gB|46];have G__law_cell:=%[mY|46];refine T.F__law_met.ok sD (λ vs H Q E h=>yM h) (λ cdv A' outer s H vs Q E hr h=>?_)
 ·obtain⟨x,p,q,g,rfl,A,B,ys,zs,a1,a2,hx,h1,h2,hp,hq,hA,hB,iA,iB,bA,bB,hd,k⟩:=h;refine⟨_,%[%[(PW.pt %[%[%[%[isinstance,aK,%[%[0|0],%[%[(.ty "tuple"),(.type "tuple"),_,∅,T.z_tuple,nofun,rfl,⋯,⋯|32]|1]|1]|6],(by intros;rfl)|19]|20],%[%[(cH hr.units),%[len,aw,%[%[0|0]|1]|6],%[0|2],(ai _)|14],%[%[(cH hr.units),%[ay,%[0|0],%[0|2],(λ _ _=>rfl)|9],(@bH _ _ _ _),(ai _)|14]|29]|21]|21]),%[%[(@cC _ _ _ _)|13]|11],(@ar _)|16],%[%[(PW.pt %[%[%[%[_law_is_place,%[%[ay,%[0|0],%[0|2],(λ _ _=>rfl)|9],%[%[1|0]|1]|1]|3],(by intros;rfl)|19]|20],%[%[%[%[_law_is_place,%[%[ay,%[0|0],%[0|2],(λ _ _=>rfl)|9],%[%[2|0]|1]|1]|3],(by intros;rfl)|19]|20]|29]|21]),%[%[(@cC _ _ _ _)|13]|11],(@ar _)|16],%[%[%[(cg hr.units),%[_law_cell,%[%[0|2],%[%[1|0],%[%[ay,%[0|0],%[0|2],(λ _ _=>rfl)|9]|1]|1]|1]|3],%[_law_cell,%[%[3|0],%[%[2|0],%[%[ay,%[0|0],%[0|2],(λ _ _=>rfl)|9]|1]|1]|1]|3],(ai _)|28]|13]|11]|10]|10],?_⟩;rw [show start ["_law_found", "_law_one", "_law_other", "_law_goal"] [.ref x,.ref p,.ref q,.int g]=[some (.ref x),some (.ref p),some (.ref q),some (.int g)] from rfl];clear G__law_is_place G__law_cell;exists k;exists hd;exists iA;exists iB;exists bA;exists bB;ac_rfl;rw [mz];refine⟨A,ys,hp,h1,hA,iA (),λ H1 e1=>?_⟩;have hx1:=e1.at hx;ac_rfl;rw [mz];refine⟨B,zs,aC hq e1,e1.at h2,hB,iB (),λ H2 e2=>?_⟩;have e02:=e1.trans e2;have hx2:=e2.at hx1;ac_rfl;rw [mB];refine⟨A,ys,aC hp e02,e02.at h1,hA,bA (),λ H3 e3=>?_⟩;have e03:=e02.trans e3;have hx3:=e3.at hx2;ac_rfl;rw [mB];refine⟨B,zs,aC hq e03,e03.at h2,hB,bB (),λ H4 e4=>?_⟩;ac_rfl;rw [Ll (show 0+cF A ys=g+cF B zs by have:=hd ();omega)];exact k () H4 (e03.trans e4)
structure gF(H:Hp)(P:List (Int × Int))(ks:List Int)(kvs:List (Key × V)):Prop where
 e1:kvs.map (·.1)=ks.map (Sum.inl:Int->Key)
 nd:ks.Nodup
 len:ks.length<=P.length
 v:∀ t∈ks,∃ q,dr kvs (.inl t)=some (.ref q)/\H q=some (.tup [.int (cT P t),.int (bD P t)])
 mem:∀ t,t∈ks ↔ t ≠ 0/\∃ z∈P,ag z.1=t
theorem gF.ext{H H':Hp}{P:List (Int × Int)}{ks:List Int}{kvs:List (Key × V)}(h:gF H P ks kvs)(e:Ext H H'):gF H' P ks kvs:=
 ⟨h.e1,h.nd,h.len,λ t ht=>(let ⟨q,h1,h2⟩:=h.v t ht;⟨q,h1,e.at h2⟩),h.mem⟩
theorem gF.upd{H:Hp}{P:List (Int × Int)}{ks:List Int}{kvs k0:List (Key × V)}{d:Addr}{o:HO}(h:gF H P ks kvs)(hd:H d=some (.dK k0)):gF (upd H d o) P ks kvs:=
 ⟨h.e1,h.nd,h.len,λ t ht=>(let ⟨q,h1,h2⟩:=h.v t ht;⟨q,h1,by rw [ae (λ z=>by rw [z,hd] at h2;cases h2)];exact h2⟩),h.mem⟩
theorem gF.nil{H:Hp}:gF H [] [] []:=⟨rfl,NH,K3 _,(λ t h=>by cases h),λ t=>⟨(λ h=>by cases h),λ ⟨_,z,hz,_⟩=>by cases hz⟩⟩
theorem gF.get{H:Hp}{P:List (Int × Int)}{ks:List Int}{kvs:List (Key × V)}{q0:Addr}(h:gF H P ks kvs){t:Int}(ht:t ≠ 0)(h0:H q0=some (.tup [.int 0,.int 0])):∃ q,(dr kvs (.inl t)).getD (.ref q0)=.ref q/\H q=some (.tup [.int (cT P t),.int (bD P t)]):=by
 by_cases hm:t∈ks
 ·obtain⟨q,h1,h2⟩:=h.v t hm;exact⟨q,by rw [h1];rfl,h2⟩
 ·have hno:∀ z∈P,¬ ag z.1=t:=λ z hz e=>hm ((h.mem t).mpr ⟨ht,z,hz,e⟩);refine⟨q0,by rw [eI h.e1 hm];rfl,?_⟩;unfold cT bD;rw [ee hno,ee hno];exact h0
theorem gF.skip{H:Hp}{P:List (Int × Int)}{ks:List Int}{kvs:List (Key × V)}{z:Int × Int}(h:gF H P ks kvs)(hz:z.1=0):gF H (P++[z]) ks kvs:=by
 have h0:ag z.1=0:=by rw [hz];rfl
 have hne:∀ t∈ks,¬ ag z.1=t:=λ t ht e=>((h.mem t).mp ht).1 (by rw [←e];exact h0);refine⟨h.e1,h.nd,by rw [K4];have:=h.len;omega,λ t ht=>?_,λ t=>?_⟩
 ·obtain⟨q,h1,h2⟩:=h.v t ht;exact⟨q,h1,by rw [gM,fD,K5 (hne t ht),K5 (hne t ht),L7,L7];exact h2⟩
 ·rw [h.mem t];constructor
  ·rintro ⟨a,y,hy,e⟩;exact⟨a,y,L5 _ hy,e⟩
  ·rintro ⟨a,y,hy,e⟩
   rcases Lu.mp hy with hy|hy
   ·exact⟨a,y,hy,e⟩
   ·rw [Ln.mp hy,h0] at e;exact absurd e.symm a
theorem gF.put{H:Hp}{P:List (Int × Int)}{ks:List Int}{kvs:List (Key × V)}{z:Int × Int}{tq:Addr}(h:gF H P ks kvs)(hz:z.1 ≠ 0)(ht:H tq=some (.tup [.int (cT P (ag z.1)+loP z),.int (bD P (ag z.1)+hiP z)])):∃ ks',gF H (P++[z]) ks' (df kvs (.inl (ag z.1)) (.ref tq)):=by
 have h0:ag z.1 ≠ 0:=by unfold ag;omega
 have hv:∀ t:Int,dr (df kvs (.inl (ag z.1)) (.ref tq)) (.inl t)=if ag z.1=t then some (.ref tq) else dr kvs (.inl t):=λ t=>by
  rw [kg]
  by_cases e:ag z.1=t
  ·rw [K7 e,K7 (by rw [e])]
  ·rw [K5 e,K5 (λ q=>e (by cases q;rfl))]
 have fin:∀ ks',(∀ t,t∈ks' ↔ t∈ks\/t=ag z.1)->(df kvs (.inl (ag z.1)) (.ref tq)).map (·.1)=ks'.map (Sum.inl:Int->Key)->ks'.Nodup->ks'.length<=ks.length+1->gF H (P++[z]) ks' (df kvs (.inl (ag z.1)) (.ref tq)):=λ ks' hm a1 a3 a4=>by
  refine⟨a1,a3,by rw [K4,K9];have:=h.len;omega,λ t ht'=>?_,λ t=>?_⟩
  ·rw [hv,gM,fD]
   by_cases e:ag z.1=t
   ·rw [K7 e,K7 e,K7 e,←e];exact⟨tq,rfl,ht⟩
   ·rw [K5 e,K5 e,K5 e,L7,L7];exact h.v t (((hm t).mp ht').resolve_right λ q=>e q.symm)
  ·rw [hm t,h.mem t];constructor
   ·rintro (⟨a,y,hy,e⟩|e)
    ·exact⟨a,y,L5 _ hy,e⟩
    ·exact⟨by rw [e];exact h0,z,Lx _ K1,e.symm⟩
   ·rintro ⟨a,y,hy,e⟩
    rcases Lu.mp hy with hy|hy
    ·exact .inl ⟨a,y,hy,e⟩
    ·rw [Ln.mp hy] at e;exact .inr e.symm
 by_cases hm:ag z.1∈ks
 ·obtain⟨q,h1,_⟩:=h.v _ hm;exact⟨ks,fin ks (λ t=>⟨.inl,λ q=>q.elim id λ e=>by rw [e];exact hm⟩) (by rw [iq _ h1];exact h.e1) h.nd %[0|8]⟩
 ·refine⟨ks++[ag z.1],fin _ (λ t=>by rw [Lu,Ln]) ?_ ?_ (by rw [K4];exact K3 _)⟩
  ·rw [fX (eI h.e1 hm),h.e1,Mb];rfl
  ·rw [List.nodup_append];exact⟨h.nd,by simp,λ a ha b hb e=>hm (by rw [Ln] at hb;rw [←hb,←e];exact ha)⟩
theorem u9:∀ {l m:List Int},l.Nodup->m.Nodup->l.Pairwise (· >= ·)->m.Pairwise (· >= ·)->(∀ t,t∈l ↔ t∈m)->l=m
 | [],[],_,_,_,_,_=>rfl
 | [],b::m,_,_,_,_,h=>by have:=(h b).mpr K1;cases this
 | a::l,[],_,_,_,_,h=>by have:=(h a).mp K1;cases this
 | a::l,b::m,n1,n2,p1,p2,h=>by
  obtain⟨a1,a2⟩:=LD.mp n1;obtain⟨b1,b2⟩:=LD.mp n2;obtain⟨c1,c2⟩:=NP.mp p1;obtain⟨d1,d2⟩:=NP.mp p2
  have hab:a=b:=by
   rcases Ls.mp ((h a).mp K1) with e|e
   ·exact e
   ·rcases Ls.mp ((h b).mpr K1) with e'|e'
    ·exact e'.symm
    ·have x1:=d1 a e;have x2:=c1 b e';omega
  subst hab;congr 1;refine u9 a2 b2 c2 d2 λ t=>⟨λ ht=>?_,λ ht=>?_⟩
  ·exact(Ls.mp ((h t).mp (KZ _ ht))).resolve_left λ e=>a1 (by rw [←e];exact ht)
  ·exact(Ls.mp ((h t).mpr (KZ _ ht))).resolve_left λ e=>b1 (by rw [←e];exact ht)
theorem jh.uniq{l m:List Int}{P:List (Int × Int)}(h1:jh l P)(h2:jh m P):l=m:=u9 h1.nd h2.nd h1.ord h2.ord λ t=>(h1.mem t).trans (h2.mem t).symm
theorem kL:∀ {A B:List (Int × Int)}{ys zs:List Int},InA A ys->InA B zs->InP (ak A B) (ys++zs)
 | [],[],[],[],_,_=>trivial
 | [],[],[],_::_,_,h=>h.elim
 | [],_::_,[],[],_,h=>h.elim
 | [],b::B,[],z::zs,h1,h2=>⟨h2.1,kL (A:=[]) (ys:=[]) trivial h2.2⟩
 | [],_,_::_,_,h,_=>h.elim
 | _::_,_,[],_,h,_=>h.elim
 | a::A,B,y::ys,zs,h1,h2=>⟨h1.1,kL h1.2 h2⟩
theorem gO:∀ {A B:List (Int × Int)}{ys zs:List Int},InA A ys->InA B zs->sQ (ak A B) (ys++zs)=cF A ys - cF B zs
 | [],[],[],[],_,_=>rfl
 | [],[],[],_::_,_,h=>h.elim
 | [],_::_,[],[],_,h=>h.elim
 | [],b::B,[],z::zs,h1,h2=>by
  have ih:=gO (A:=[]) (ys:=[]) (B:=B) (zs:=zs) trivial h2.2
  show -b.2 * z+sQ (ak [] B) ([]++zs)=0 - (b.2 * z+cF B zs)
  rw [ih,Nk]
  show _+(0 - cF B zs)=_
  omega
 | [],_,_::_,_,h,_=>h.elim
 | _::_,_,[],_,h,_=>h.elim
 | a::A,B,y::ys,zs,h1,h2=>by
  have ih:=gO h1.2 h2
  show a.2 * y+sQ (ak A B) (ys++zs)=a.2 * y+cF A ys - cF B zs
  rw [ih];omega
theorem jZ:∀ {A B:List (Int × Int)}{xs:List Int},InP (ak A B) xs->InA A (xs.take A.length)/\InA B (xs.drop A.length)
 | [],[],[],_=>⟨trivial,trivial⟩
 | [],[],_::_,h=>h.elim
 | [],_::_,[],h=>h.elim
 | [],b::B,z::zs,h=>⟨trivial,h.1,(jZ (A:=[]) (B:=B) (xs:=zs) h.2).2⟩
 | _::_,_,[],h=>h.elim
 | a::A,B,y::xs,h=>⟨⟨h.1,(jZ h.2).1⟩,(jZ h.2).2⟩
def sgP(sg:Int)(a:Int × Int):Int × Int:=(sg * (aj a).2,a.1)
theorem nR(A B:List (Int × Int)):ak (A.map aj) (B.map aj)=A.map (sgP 1)++B.map (sgP (-1)):=by
 unfold ak;rw [map_map,map_map];congr 1
 ·refine MK λ a _=>?_
  show ((aj a).2,a.1)=(1 * (aj a).2,a.1)
  rw [LR]
 ·refine MK λ a _=>?_
  show (-(aj a).2,a.1)=(-1 * (aj a).2,a.1)
  rw [L8]
abbrev jH  (p:Addr) (q:Addr) (H:Hp) (Q:VK) (E:XK):Prop:=∃ A B:List (Int × Int),du H p A/\du H q B/\A.length<=8/\B.length<=8/\(∀ a∈A,(1:Int)<=a.1)/\(∀ a∈B,(1:Int)<=a.1)/\∀ (ks:List Int) (r:Addr) (H':Hp),Ext H H'->gz H' r (af ks (ak (A.map aj) (B.map aj)))->jh ks (ak (A.map aj) (B.map aj))->Q (.ref r) H'
def km  : Sp:=λ vs H Q E=>∃ (p:Addr) (q:Addr),vs=[.ref p,.ref q]/\(jH  p q H Q E)
theorem jB  (p:Addr) (q:Addr) (H:Hp) (Q:VK) (E:XK):km  [.ref p,.ref q] H Q E=(jH  p q H Q E):=sJ (f:=λ (p:Addr) (q:Addr)=>[.ref p,.ref q]) (λ _ _ _ _ h=>by cases h;exact⟨rfl,rfl⟩) p q
theorem rJ  {vs:List V}{H:Hp}{Q:VK}{E:XK}(h:km  vs H Q E):vs.length=2:=sL h λ _ _=>rfl
theorem fG(T:Tx K mg t):bC P w K mg base CX0 1 t.a__law_terms t.d__law_terms ["_law_one", "_law_other"] km:=by
 refine T.F__law_terms.ok aL (λ vs H Q E h=>rJ h) (λ cdv A' outer s H vs Q E hr h=>?_)
 ·obtain⟨p,q,rfl,A,B,pA,pB,hA,hB,sA,sB,k⟩:=h;refine⟨_,%[(@gX _ _ (2) _ _ _ _ aL.nd rfl (Or.inr rfl) (@gJ _ _) ∅ %[0|7]),%[%[Lv,rfl,%[%[%[%[%[%[0|0],%[%[0|2]|1]|1]|17],%[%[%[%[1|0],%[(@qJ _ _ _ _ _ _ fL %[0|2])|1]|1]|17]|1]|1]|23]|24],(%[(2),rfl,%[%[3,aL|5],%[%[4,aL|5],(@aB _),∅|15],∅|15],∅,∅|22].mono λ _ _ _ _ h=>aZ h),%[%[Lv,rfl,%[%[3|0]|24],(%[(2),rfl,%[%[5,aL|5],%[%[6,aL|5],(@aB _),∅|15],∅|15],∅,∅|22].mono λ _ _ _ _ h=>aZ h),%[%[(PW.pt %[%[dR,%[5|0],%[0|2],(ai _)|14],(@dz _ _ _ _ %[(cH hr.units),%[6|0],%[0|2],(ai _)|14])|36]),%[%[%[(cG hr.units),%[2|0],%[abs,bQ,%[%[6|0]|1]|6],%[%[%[0|2],%[%[0|2]|1]|1]|17],⟨by rfl,by rfl,by rfl,by rfl⟩|44],(%[(2),rfl,%[%[7,aL|5],%[%[8,aL|5],(@aB _),∅|15],∅|15],∅,∅|22].mono λ _ _ _ _ h=>aZ h),∅,∅,∅|37],%[%[%[dR,%[bh,%[6|0],%[4|0]|12],%[0|2],(ai _)|14],%[%[(cG hr.units),%[2|0],%[abs,bQ,%[%[6|0]|1]|6],%[%[%[7|0],%[%[aF,%[aH,%[8|0],%[5|0]|12],%[0|2]|12]|1]|1]|17],rfl|42]|11],%[%[(cG hr.units),%[2|0],%[abs,bQ,%[%[6|0]|1]|6],%[%[%[aH,%[aF,%[7|0],%[5|0]|12],%[0|2]|12],%[%[8|0]|1]|1]|17],rfl|42]|11]|16]|11]|10],(@ar _)|16]|11],(by intros;rfl)|30]|11],(by intros;rfl)|30],%[(@uH _ _ _ _ _ _ _ _ _ _ _ _ _ (["_law_times", "_law_one", "_law_other", "_law_ranges", "_law_axes_here", "_law_sign", "_law_size", "_law_pace", "_law_low", "_law_high", "_law_found"]) (1) (9) _ aL.nd rfl (Or.inl rfl) (aP (aa cM) ["_law_one", "_law_other", "_law_ranges", "_law_axes_here", "_law_sign", "_law_size", "_law_pace", "_law_low", "_law_high", "_law_found"] rfl rfl nofun) rfl %[%[sorted,(rZ rfl),%[%[2|0]|1]|6]|24] (λ C s₀ H₀ ex pn=>%[(0),_,(show List.Nodup (["_law_times", "_law_one", "_law_other", "_law_ranges", "_law_axes_here", "_law_sign", "_law_size", "_law_pace", "_law_low", "_law_high", "_law_found"]:List Str) from by decide +kernel),rfl,(Or.inl rfl),%[0|7]|18]) (λ C s₀ H₀ ex pn=>(@aY _)) (λ C s₀ H₀ ex pn=>%[yk,%[%[%[0|0]|1]|17],(@nW _ _ _ _ _ _ (cG hr.units) %[3|0] %[0|0] (λ _ _=>rfl))|12]) ∅ (by intros;rfl) %[0|7]),%[%[%[Li,Nc,Nb,gb,%[9|0],∅,∅|43],∅|34],%[%[%[9|0]|13]|11]|10]|10]|10]|10],?_⟩;rw [show start ["_law_one", "_law_other", "_law_ranges", "_law_axes_here", "_law_sign", "_law_size", "_law_pace", "_law_low", "_law_high", "_law_found"] [.ref p,.ref q]=[some (.ref p),some (.ref q),none,none,none,none,none,none,none,none] from rfl];rw [nR] at k;exists k;exists sA;exists sB;ac_rfl;intro d H1 hd1 e1 h1;have hd0:=hd1;ac_rfl;intro t1 H2 _ e2 h2;ac_rfl;intro t2 H3 _ e3 h3;have h2_3:=e3.at h2;ac_rfl;intro l4 H4 hl4 e4 h4;have nl:l4 ≠ d:=λ z=>by rw [z,(e2.trans e3).at h1] at hl4;cases hl4
  have e04:=e1.trans (e2.trans (e3.trans e4));have h1_4:=(e2.trans (e3.trans e4)).at h1;have ht1:=e4.at h2_3;have ht2:=e4.at h3;clear hd1 hl4 h1 h2 h2_3 h3 e1 e2 e3 e4;ac_rfl;refine ed (xs:=[.ref t1,.ref t2]) (λ i σ H'=>∃ (ks:List Int) (kvs:List (Key × V)) (v3 v4 v5 v6 v7 v8:Option V),σ=[some (.ref p),some (.ref q),some (.ref d),v3,v4,v5,v6,v7,v8,none]/\Ext H H'/\(∀ b o,b ≠ d->H4 b=some o->H' b=some o)/\H' d=some (.dK kvs)/\gF H' (if i=0 then [] else if i=1 then A.map (sgP 1) else A.map (sgP 1)++B.map (sgP (-1))) ks kvs) ⟨[],[],none,none,none,none,none,none,rfl,e04,λ _ _ _ h=>h,h1_4,gF.nil⟩ (λ i σ H' _ ⟨_,_,_,_,_,_,_,_,_,_,kp,_⟩=>kp l4 _ nl h4) ?_ ?_
  ·rintro i y _ H5 hi ⟨ks,kvs,v3,v4,v5,v6,v7,v8,rfl,e5,kp,h5d,ri⟩
   obtain⟨tq,axp,Ax,sg,P0,hy,htq,pX,hX8,hX1,hsg,hP8,hP0,hP1⟩:∃ (tq axp:Addr) (Ax:List (Int × Int)) (sg:Int) (P0:List (Int × Int)),y=.ref tq/\H4 tq=some (.tup [.ref axp,.int sg])/\du H axp Ax/\Ax.length<=8/\(∀ a∈Ax,(1:Int)<=a.1)/\(sg=1\/sg=-1)/\P0.length<=8/\(if i=0 then [] else if i=1 then A.map (sgP 1) else A.map (sgP 1)++B.map (sgP (-1)))=P0/\(if i+1=0 then [] else if i+1=1 then A.map (sgP 1) else A.map (sgP 1)++B.map (sgP (-1)))=P0++Ax.map (sgP sg):=by
    match i,hi with
    | 0,hi=>cases hi;exact⟨t1,p,A,1,[],rfl,ht1,pA,hA,sA (),.inl rfl,by decide,rfl,rfl⟩
    | 1,hi=>cases hi;exact⟨t2,q,B,-1,A.map (sgP 1),rfl,ht2,pB,hB,sB (),.inr rfl,by rw [K2];exact hA,rfl,rfl⟩
    | i+2,hi=>simp at hi
   subst hy;rw [hP0] at ri;rw [hP1];have ht5:=kp tq _ (λ e=>by rw [e,h1_4] at htq;cases htq) htq;obtain⟨ts,hax,alX⟩:=pX;have hax5:=e5.at hax;have htl:ts.length=Ax.length:=alX.1;exists alX;exists htl;exists hX1;have ini:gF H5 (P0++(Ax.map (sgP sg)).take 0) ks kvs:=by rw [List.take_zero,MG];exact ri
   exists ini;clear hi hP0 hP1 ri htq k pA pB ht1 ht2 h4;simp! only [↓aE];refine ed (xs:=ts) (λ j σ H'=>∃ (ks:List Int) (kvs:List (Key × V)) (v5 v6 v7 v8:Option V),σ=[some (.ref p),some (.ref q),some (.ref d),some (.ref axp),some (.int sg),v5,v6,v7,v8,none]/\Ext H H'/\(∀ b o,b ≠ d->H4 b=some o->H' b=some o)/\H' d=some (.dK kvs)/\gF H' (P0++(Ax.map (sgP sg)).take j) ks kvs) ⟨ks,kvs,_,_,_,_,rfl,e5,kp,h5d,ini ()⟩ (λ j σ H' _ ⟨_,_,_,_,_,_,_,e,_⟩=>e.at hax) ?_ ?_
   ·clear ini h5d e5 kp ht5 hax5;rintro j y _ H6 hj ⟨ks,kvs,v5,v6,v7,v8,rfl,e6,kp,h6d,ri⟩;have hjA:j < Ax.length:=by have:=(K0.mp hj).1;have:=htl ();omega
    obtain⟨aq,rfl,haq⟩:=(alX ()).2 j Ax[j] y (KU hjA) hj;have ha6:=e6.at haq;have hsz:=hX1 () Ax[j] (Mm hjA)
    have htk:(Ax.map (sgP sg)).take (j+1)=(Ax.map (sgP sg)).take j++[sgP sg Ax[j]]:=by
     rw [M3,Lh,KU hjA];rfl
    rw [htk,←MB];have hPl:(P0++(Ax.map (sgP sg)).take j).length<=16:=by rw [K4,LW,K2];omega
    generalize P0++(Ax.map (sgP sg)).take j=PP at *;have lk:kvs.length < sizeLine:=dY (by have:=L6 List.length ri.e1;have:=ri.len;rw [K2,K2] at *;omega);generalize Ax[j]=a at *;clear hj htk haq
    by_cases hs1:1 < a.1
    ·have hkp:(aj a).2=a.2:=by unfold aj;rw [if_pos hs1]
     by_cases hp0:a.2=0
     ·have rs:=λ (_:Unit)=>ri.skip (z:=sgP sg a) (by show sg * (aj a).2=0;rw [hkp,hp0,LL]);clear ri hkp;simp! only [↓aE];exact⟨ks,kvs,_,_,_,_,rfl,e6,kp,rfl,rs ()⟩
     obtain⟨z,hz⟩:∃ z,sgP sg a=z:=⟨_,rfl⟩;have hz1:z.1=sg * a.2:=by rw [←hz];show sg * (aj a).2=_;rw [hkp]
     have hz2:z.2=a.1:=by rw [←hz];rfl
     have hz0:z.1 ≠ 0:=by rw [hz1];rcases hsg with rfl|rfl<;>omega
     have hab0:ag z.1 ≠ 0:=by unfold ag;omega
     have habs:(if a.2 < 0 then -a.2 else a.2)=ag z.1:=by
      unfold ag;rw [hz1];rcases hsg with rfl|rfl<;>split<;>omega
     have hsgn:(0 < a.2 * sg ↔ 0 < z.1):=by rw [hz1,LM]
     rw [hz];have cm:gS a.2 sg:=.inr ⟨by rcases hsg with rfl|rfl<;>decide,by rcases hsg with rfl|rfl<;>decide⟩;exists ri;exists hz1;exists hz2;exists hz;exists hsgn;exists hkp;simp! only [↓aE];refine eV h6d ?_;ac_rfl;intro q0 H8 _ e8 h8;have h8d:=e8.at h6d;have e08:=e6.trans e8;obtain⟨qv,hgv,hqv⟩:=((ri ()).ext e8).get hab0 h8;have ri8:=λ (_:Unit)=>(ri ()).ext e8;have kp8:=λ (_:Unit)=>λ b o (x1:b ≠ d) (h:H4 b=some o)=>e8.at (kp b o x1 h);clear ha6 h6d kp e6;ac_rfl;refine gW (k:=.inl (ag z.1)) h8d ?_;rw [hgv];clear hgv
     by_cases hpos:0 < a.2 * sg
     ·have hzp:=(hsgn ()).mp hpos;have hlo:loP z=0:=by unfold loP;rw [if_pos hzp]
      have hhi:hiP z=a.1 - 1:=by unfold hiP;rw [if_pos hzp,hz2 ()]
      exists hlo;exists hhi;clear hzp;ac_rfl;intro t9 H9 ht9 e9 h9;have h9d:=e9.at h8d;obtain⟨ks',rn⟩:=((ri8 ()).ext e9).put (z:=z) (tq:=t9) hz0 (by rw [h9,hlo (),hhi (),L7,Int.add_sub_assoc]);have ru:=λ (_:Unit)=>gF.upd (o:=.dK (df kvs (.inl (ag z.1)) (.ref t9))) rn h9d;clear rn ht9 ri8 h8d ri;ac_rfl;refine gk (k:=.inl (ag z.1)) h9d lk ?_;exact⟨ks',_,_,_,_,_,rfl,(e08.trans e9).put hd0,λ b o x1 h=>by rw [ae x1];exact e9.at (kp8 () b o x1 h),ah,ru ()⟩
     ·have hzp:¬ 0 < z.1:=λ h=>hpos ((hsgn ()).mpr h);have hlo:loP z=1 - a.1:=by unfold loP;rw [if_neg hzp,hz2 ()]
      have hhi:hiP z=0:=by unfold hiP;rw [if_neg hzp]
      exists hlo;exists hhi;clear hzp;ac_rfl;intro t9 H9 ht9 e9 h9;have h9d:=e9.at h8d;obtain⟨ks',rn⟩:=((ri8 ()).ext e9).put (z:=z) (tq:=t9) hz0 (by rw [h9,hlo (),hhi (),L7,show cT PP (ag z.1) - a.1+1=cT PP (ag z.1)+(1 - a.1) by omega]);have ru:=λ (_:Unit)=>gF.upd (o:=.dK (df kvs (.inl (ag z.1)) (.ref t9))) rn h9d;clear rn ht9 ri8 h8d ri;ac_rfl;refine gk (k:=.inl (ag z.1)) h9d lk ?_;exact⟨ks',_,_,_,_,_,rfl,(e08.trans e9).put hd0,λ b o x1 h=>by rw [ae x1];exact e9.at (kp8 () b o x1 h),ah,ru ()⟩
    ·have hkp:(aj a).2=0:=by unfold aj;rw [if_neg hs1]
     have rs:=λ (_:Unit)=>ri.skip (z:=sgP sg a) (by show sg * (aj a).2=0;rw [hkp,LL]);clear ri hkp;simp! only [↓aE];exact⟨ks,kvs,_,_,_,_,rfl,e6,kp,rfl,rs ()⟩
   ·rintro _ H6 ⟨ks,kvs,v5,v6,v7,v8,rfl,e6,kp,h6d,ri⟩;rw [htl (),Ma (by rw [K2];exact K3 _)] at ri;exact⟨ks,kvs,_,_,_,_,_,_,rfl,e6,kp,h6d,ri⟩
  ·rintro _ H5 ⟨ks,kvs,v3,v4,v5,v6,v7,v8,rfl,e5,kp,h5d,ri⟩;have ri':gF H5 (A.map (sgP 1)++B.map (sgP (-1))) ks kvs:=ri;have hPl:(A.map (sgP 1)++B.map (sgP (-1))).length<=16:=by rw [K4,K2,K2];omega
   generalize A.map (sgP 1)++B.map (sgP (-1))=P' at *;have hk1:ks.length < 64:=by have:=ri'.len;omega
   exists ri';clear ri kp h4 h1_4 ht1 ht2 pA pB e04;ac_rfl;refine Bl h5d (ri' ()).e1 hk1 λ ms hpm hord=>?_;intro q6 H6 hq6 e6 h6;have h6d:=e6.at h5d;have ri6:=λ (_:Unit)=>(ri' ()).ext e6;have hms:ms.length<=64:=by rw [hpm.length_eq];omega
   exists hpm;exists hord;clear hq6;ac_rfl;have wk:=oX (K:=K) h6;refine dg (ms.map V.int) (λ _=>true) (λ z x H'=>x=z/\H' q6=some (.lst (ms.map V.int))) (λ D z y H'=>trP (vi z,cT P' (vi z),bD P' (vi z)) y H') wk.1 wk.2 (λ D z y H1 H2 h e=>trP.ext (z:=(vi z,cT P' (vi z),bD P' (vi z))) h e) (λ D z y H1 xs o h hD=>trP.upd (z:=(vi z,cT P' (vi z),bD P' (vi z))) h hD) (az (by rw [K2];omega)) ?_ ?_
   ·intro D z y H' N1 N0 hz hD e _ ⟨hy,_⟩ kx _;subst hy;obtain⟨t',ht',rfl⟩:=Lo.mp hz;obtain⟨qv,w1,w2⟩:=((ri6 ()).ext e).v t' ((hpm ()).mem_iff.mp ht');have k1':=kx rfl;have a1:=e.at h6d;clear kx k hz wk;simp! only [↓bW,↓aU];intro t9 H9 _ e9 h9;have a19:=e9.at a1;have w29:=e9.at w2;clear a1 w2;ac_rfl;refine tK (k:=.inl t') a19 w1 ?_;ac_rfl;rw [EA];refine⟨az (by simp),λ g H10 e10 h10=>?_⟩;exact k1' _ H10 (e9.trans e10) ⟨g,rfl,h10⟩
   ·intro D zs H7 hD e7 h7 al7;rw [lE] at al7;have hD0:H D=none:=(e5.trans e6).free hD
    have al8:Al (λ z y=>trP z y H7) (af ms P') zs:=by
     refine⟨by rw [al7.1];unfold af;rw [length_map,length_map],λ i z y hz hy=>?_⟩;unfold af at hz;rw [getElem?_map] at hz;obtain⟨t',ht',rfl⟩:=Option.map_eq_some_iff.mp hz;exact al7.2 i (.int t') y (by rw [getElem?_map,ht'];rfl) hy
    have al9:Al (λ z y=>trP z y H7) (af ms.reverse P') zs.reverse:=by
     have e1:af ms.reverse P'=(af ms P').reverse:=by unfold af;rw [List.map_reverse]
     rw [e1];refine⟨by rw [LA,LA];exact al8.1,λ i z y hz hy=>?_⟩;have hi:i < (af ms P').length:=by have:=(K0.mp hz).1;rw [LA] at this;exact this
     rw [Mr hi] at hz;rw [Mr (by rw [al8.1];exact hi),al8.1] at hy;exact al8.2 _ z y hz hy
    have ko:jh ms.reverse P':=⟨(List.reverse_perm ms).nodup_iff.mpr ((hpm ()).nodup_iff.mpr (ri' ()).nd),by rw [LA,(hpm ()).length_eq];exact(ri' ()).len,λ t'=>by rw [Mf];exact(hpm ()).mem_iff.trans ((ri' ()).mem t'),List.pairwise_reverse.mpr (hord ())⟩;have fin:=k () ms.reverse D (upd H7 D (.lst zs.reverse)) ((e5.trans (e6.trans e7)).put hD0) ⟨_,ah,al9.imp λ _ _ t=>trP.upd t h7⟩ ko;clear al7 al8 al9 wk ko k hD;ac_rfl
def fm(A B:List (Int × Int))(g:Int):Prop:=∃ ys zs,InA A ys/\InA B zs/\cF A ys=g+cF B zs
theorem fm.swap{A B:List (Int × Int)}{g:Int}:fm B A (0 - g) ↔ fm A B g:=
 ⟨λ ⟨ys,zs,h1,h2,e⟩=>⟨zs,ys,h2,h1,by omega⟩,λ ⟨ys,zs,h1,h2,e⟩=>⟨zs,ys,h2,h1,by omega⟩⟩
theorem kf(x:Int):0<=ag x:=by unfold ag;omega
def axW(a:Int × Int):Int:=ag a.2 * (a.1 - 1)
def wS:List (Int × Int)->Int
 | []=>0
 | a::A=>axW a+wS A
def wLt(t:Int):List (Int × Int)->Int
 | []=>0
 | a::A=>(if ag a.2 < t then axW a else 0)+wLt t A
theorem jj:∀ A B:List (Int × Int),wS (A++B)=wS A+wS B
 | [],B=>(LF _).symm
 | a::A,B=>by show axW a+wS (A++B)=axW a+wS A+wS B;rw [jj A B];omega
theorem jV(t:Int):∀ A B:List (Int × Int),wLt t (A++B)=wLt t A+wLt t B
 | [],B=>(LF _).symm
 | a::A,B=>by show _+wLt t (A++B)=_+wLt t A+wLt t B;rw [jV t A B];omega
theorem AA{a:Int × Int}(h:1<=a.1):0<=axW a:=LH (kf _) %[0|8]
theorem qI:∀ {A:List (Int × Int)},(∀ a∈A,1<=a.1)->0<=wS A
 | [],_=>Lp _
 | a::A,h=>by
  have:=AA (h a K1);have:=qI λ b hb=>h b (KZ _ hb)
  show 0<=axW a+wS A;omega
theorem lQ:∀ {A:List (Int × Int)},(∀ a∈A,1<=a.1/\(a.2 ≠ 0->2<=a.1))->∀ a∈A,ag a.2<=wS A
 | a::A,h,b,hb=>by
  have hA:∀ x∈A,(1:Int)<=x.1/\(x.2 ≠ 0->2<=x.1):=λ x hx=>h x (KZ _ hx);have h2:=h a K1;have n1:=qI (A:=A) λ x hx=>(hA x hx).1;have n2:=AA (a:=a) %[0|8]
  show ag b.2<=axW a+wS A
  rcases Ls.mp hb with rfl|hb
  ·by_cases e0:b.2=0
   ·have:ag b.2=0:=by rw [e0];rfl
    omega
   ·have:=Lc (show 1<=b.1 - 1 by have:=h2.2 e0;omega) (kf b.2);have e:axW b=ag b.2 * (b.1 - 1):=rfl;omega
  ·have:=lQ hA b hb;omega
theorem nD{t:Int}:∀ {A:List (Int × Int)},(∀ a∈A,ag a.2 < t)->wLt t A=wS A
 | [],_=>rfl
 | a::A,h=>by
  show (if ag a.2 < t then axW a else 0)+wLt t A=axW a+wS A
  rw [K7 (h a K1),nD λ b hb=>h b (KZ _ hb)]
structure AxN(A:List (Int × Int)):Prop where
 len:A.length<=8
 sz:∀ a∈A,(1<=a.1/\a.1<=1000)/\(a.2 ≠ 0->2<=a.1)
theorem AxN.one{A:List (Int × Int)}(h:AxN A):∀ a∈A,1<=a.1/\(a.2 ≠ 0->2<=a.1):=λ a ha=>⟨(h.sz a ha).1.1,(h.sz a ha).2⟩
theorem AxN.axes{A:List (Int × Int)}(h:AxN A):oW A:=⟨h.len,λ a ha=>by have:=(h.sz a ha).1;omega⟩
def Jn(A B:List (Int × Int)):Prop:=∀ a,a∈A\/a∈B->a.2 ≠ 0->wLt (ag a.2) A+wLt (ag a.2) B < ag a.2
structure b5(A B:List (Int × Int)):Prop where
 kA:AxN A
 kB:AxN B
 le:wS A+wS B<=100000000000000000
 fall:Jn A B
theorem b5.symm{A B:List (Int × Int)}(h:b5 A B):b5 B A:=⟨h.kB,h.kA,by have:=h.le;omega,λ a ha h0=>by have:=h.fall a ha.symm h0;omega⟩
theorem b5.nil:b5 [] []:=⟨⟨by decide,λ a h=>by cases h⟩,⟨by decide,λ a h=>by cases h⟩,by decide,λ a h=>by rcases h with h|h<;>cases h⟩
theorem lR{t:Int}:∀ {A:List (Int × Int)},(∀ a∈A,a.2=0\/t<=ag a.2)->wLt t A=0
 | [],_=>rfl
 | a::A,h=>by
  show (if ag a.2 < t then axW a else 0)+wLt t A=0
  rw [lR λ b hb=>h b (KZ _ hb)]
  rcases h a K1 with e|e
  ·have e0:axW a=0:=by show ag a.2 * (a.1 - 1)=0;rw [e];show (0:Int) * (a.1 - 1)=0;rw [Int.zero_mul]
   rw [e0];split<;>rfl
  ·rw [K5 %[0|8]];rfl
theorem b5.add{A B A1 B1:List (Int × Int)}{t:Int}(h:b5 A B)(ht:wS A+wS B < t)(hA1:∀ a∈A1,(a.2=0\/(ag a.2=t/\2<=a.1))/\1<=a.1/\a.1<=1000)(hB1:∀ a∈B1,(a.2=0\/(ag a.2=t/\2<=a.1))/\1<=a.1/\a.1<=1000)(lA:A.length+A1.length<=8)(lB:B.length+B1.length<=8)(hle:wS A+wS B+(wS A1+wS B1)<=100000000000000000):b5 (A++A1) (B++B1):=by
 have n1:=qI λ a ha=>(h.kA.one a ha).1;have n2:=qI λ a ha=>(h.kB.one a ha).1
 have oA:∀ a∈A,ag a.2 < t:=λ a ha=>by
  have:=lQ h.kA.one a ha;omega
 have oB:∀ a∈B,ag a.2 < t:=λ a ha=>by
  have:=lQ h.kB.one a ha;omega
 have sz:∀ {X X1:List (Int × Int)},(∀ a∈X,(1<=a.1/\a.1<=1000)/\(a.2 ≠ 0->2<=a.1))->(∀ a∈X1,(a.2=0\/(ag a.2=t/\2<=a.1))/\1<=a.1/\a.1<=1000)->∀ a∈X++X1,(1<=a.1/\a.1<=1000)/\(a.2 ≠ 0->2<=a.1):=λ h1 h2 a ha=>by
  rcases Lu.mp ha with ha|ha
  ·exact h1 a ha
  ·obtain⟨x1,x2⟩:=h2 a ha;exact⟨x2,λ h0=>by rcases x1 with x1|x1;exact absurd x1 h0;exact x1.2⟩
 refine⟨⟨by rw [K4];exact lA,sz h.kA.sz hA1⟩,⟨by rw [K4];exact lB,sz h.kB.sz hB1⟩,by rw [jj,jj];omega,λ a ha h0=>?_⟩;rw [jV,jV]
 have nw:∀ {X1:List (Int × Int)} {u:Int},u<=t->(∀ a∈X1,(a.2=0\/(ag a.2=t/\2<=a.1))/\1<=a.1/\a.1<=1000)->wLt u X1=0:=λ hu hx=>lR λ b hb=>by
  rcases (hx b hb).1 with e|e
  ·exact .inl e
  ·exact .inr %[0|8]
 have old:ag a.2 < t->(a∈A\/a∈B)->wLt (ag a.2) A+wLt (ag a.2) A1+(wLt (ag a.2) B+wLt (ag a.2) B1) < ag a.2:=λ hlt hm=>by
  rw [nw %[0|8] hA1,nw %[0|8] hB1];have:=h.fall a hm h0;omega
 have new:ag a.2=t->wLt (ag a.2) A+wLt (ag a.2) A1+(wLt (ag a.2) B+wLt (ag a.2) B1) < ag a.2:=λ e=>by
  rw [e,nD oA,nD oB,nw (Lp _) hA1,nw (Lp _) hB1];omega
 rcases ha with ha|ha
 ·rcases Lu.mp ha with ha|ha
  ·exact old (oA a ha) (.inl ha)
  ·rcases (hA1 a ha).1 with e|e
   ·exact absurd e h0
   ·exact new e.1
 ·rcases Lu.mp ha with ha|ha
  ·exact old (oB a ha) (.inr ha)
  ·rcases (hB1 a ha).1 with e|e
   ·exact absurd e h0
   ·exact new e.1
theorem tJ:∀ A:List (Int × Int),wS A.reverse=wS A
 | []=>rfl
 | a::A=>by rw [Mx,jj,tJ A];show wS A+(axW a+0)=axW a+wS A;omega
theorem nC(t:Int):∀ A:List (Int × Int),wLt t A.reverse=wLt t A
 | []=>rfl
 | a::A=>by rw [Mx,jV,nC t A];show wLt t A+((if ag a.2 < t then axW a else 0)+0)=(if ag a.2 < t then axW a else 0)+wLt t A;omega
theorem b5.rev{A B:List (Int × Int)}(h:b5 A B):b5 A.reverse B.reverse:=⟨⟨by rw [LA];exact h.kA.len,λ a ha=>h.kA.sz a (Mf.mp ha)⟩,⟨by rw [LA];exact h.kB.len,λ a ha=>h.kB.sz a (Mf.mp ha)⟩,by rw [tJ,tJ];exact h.le,λ a ha h0=>by
 rw [nC,nC];exact h.fall a (by rw [Mf,Mf] at ha;exact ha) h0⟩
theorem InA.app:∀ {A A1:List (Int × Int)}{ys ys1:List Int},InA A ys->InA A1 ys1->InA (A++A1) (ys++ys1)/\cF (A++A1) (ys++ys1)=cF A ys+cF A1 ys1
 | [],_,[],_,_,h=>⟨h,(LF _).symm⟩
 | [],_,_::_,_,h,_=>h.elim
 | _::_,_,[],_,h,_=>h.elim
 | a::A,A1,y::ys,ys1,h,h1=>by
  obtain⟨i1,i2⟩:=InA.app h.2 h1;refine⟨⟨h.1,i1⟩,?_⟩
  show a.2 * y+cF (A++A1) (ys++ys1)=a.2 * y+cF A ys+cF A1 ys1
  rw [i2];omega
def pW(t:Int):List (Int × Int)->Int
 | []=>0
 | z::P=>(if ag z.1 < t then ag z.1 * (z.2 - 1) else 0)+pW t P
def pM(l:List Int):List (Int × Int)->Int
 | []=>0
 | z::P=>(if ag z.1∈l then ag z.1 * (z.2 - 1) else 0)+pM l P
def sT(l:List Int)(f:Int->Int):Int:=l.foldr (λ t r=>t * f t+r) 0
theorem uE{P:List (Int × Int)}{z:Int × Int}:∀ {l:List Int},l.Nodup->sT l (fK (z::P))=(if ag z.1∈l then ag z.1 * (z.2 - 1) else 0)+sT l (fK P)
 | [],_=>rfl
 | t::l,h=>by
  obtain⟨h1,h2⟩:=LD.mp h;have ih:=uE (P:=P) (z:=z) h2
  show t * fK (z::P) t+sT l (fK (z::P))=_+(t * fK P t+sT l (fK P))
  rw [ih,eJ,L9]
  by_cases e:ag z.1=t
  ·subst e;rw [K7 rfl,K5 h1,K7 K1];omega
  ·rw [K5 e,LL]
   by_cases hm:ag z.1∈l
   ·rw [K7 hm,K7 (KZ _ hm)];omega
   ·rw [K5 hm,K5 (λ q=>by rcases Ls.mp q with q|q;exact e q;exact hm q)];omega
theorem JB{l:List Int}(h:l.Nodup):∀ P:List (Int × Int),sT l (fK P)=pM l P
 | []=>by
  have:∀ l:List Int,sT l (fK [])=0:=λ l=>by
   induction l with
   | nil=>rfl
   | cons t l ih=>show t * 0+sT l (fK [])=0;rw [ih,LL];rfl
  exact this l
 | z::P=>by rw [uE h,JB h P];rfl
theorem pC(P:List (Int × Int)):∀ l:List Int,lH (af l P)=sT l (fK P)
 | []=>rfl
 | t::l=>by
  show t * (bD P t - cT P t)+lH (af l P)=t * fK P t+sT l (fK P)
  rw [gN,pC P l]
theorem Ef{t:Int}{l:List Int}(hl:∀ u∈l,u < t):∀ {P:List (Int × Int)},(∀ z∈P,1<=z.2)->pM l P<=pW t P
 | [],_=>Lp _
 | z::P,h=>by
  have ih:=Ef hl (P:=P) λ y hy=>h y (KZ _ hy);have n:=LH (kf z.1) (show 0<=z.2 - 1 by have:=h z K1;omega)
  show (if ag z.1∈l then ag z.1 * (z.2 - 1) else 0)+pM l P<=(if ag z.1 < t then ag z.1 * (z.2 - 1) else 0)+pW t P
  by_cases hm:ag z.1∈l
  ·rw [K7 hm,K7 (hl _ hm)];omega
  ·rw [K5 hm];split<;>omega
theorem jv{P:List (Int × Int)}(hP:∀ z∈P,(1:Int)<=z.2)(hf:∀ z∈P,z.1 ≠ 0->pW (ag z.1) P < ag z.1):∀ {ks:List Int},ks.Nodup->ks.Pairwise (· >= ·)->(∀ t∈ks,t ≠ 0/\∃ z∈P,ag z.1=t)->tI (af ks P)
 | [],_,_,_=>trivial
 | t::l,hn,ho,hk=>by
  obtain⟨h1,h2⟩:=LD.mp hn;obtain⟨o1,o2⟩:=NP.mp ho;refine⟨?_,jv hP hf h2 o2 λ u hu=>hk u (KZ _ hu)⟩;obtain⟨t0,z,hz,e⟩:=hk t K1
  show lH (af l P) < t
  rw [pC,JB h2]
  have a:=Ef (t:=t) (l:=l) (λ u hu=>by
   have:=o1 u hu;have:u ≠ t:=λ q=>h1 (by rw [←q];exact hu);omega) hP
  have b:=hf z hz (λ q=>t0 (by rw [←e,q];rfl));rw [e] at b;omega
theorem ug{sg:Int}(hs:sg=1\/sg=-1)(t:Int):∀ A:List (Int × Int),pW t (A.map λ a=>(sg * a.2,a.1))=wLt t A
 | []=>rfl
 | a::A=>by
  have e:ag (sg * a.2)=ag a.2:=by unfold ag;rcases hs with rfl|rfl<;>omega
  show (if ag (sg * a.2) < t then ag (sg * a.2) * (a.1 - 1) else 0)+pW t (A.map λ a=>(sg * a.2,a.1))=(if ag a.2 < t then axW a else 0)+wLt t A
  rw [e,ug hs t A];rfl
theorem Ao(t:Int):∀ P Q:List (Int × Int),pW t (P++Q)=pW t P+pW t Q
 | [],Q=>(LF _).symm
 | z::P,Q=>by show _+pW t (P++Q)=_+pW t P+pW t Q;rw [Ao t P Q];omega
theorem EN(t:Int)(A B:List (Int × Int)):pW t (ak A B)=wLt t A+wLt t B:=by
 unfold ak;rw [Ao];have e1:(A.map λ a=>(a.2,a.1))=A.map λ a=>(1 * a.2,a.1):=List.map_congr_left λ a _=>by rw [Int.one_mul]
 have e2:(B.map λ a=>(-a.2,a.1))=B.map λ a=>(-1 * a.2,a.1):=MK λ a _=>by rw [L8]
 rw [e1,e2,ug (.inl rfl),ug (.inr rfl)]
abbrev Sd:=Int × Int × Int × Int × Int
def eT(x:Sd):Prop:=(1<=x.1/\x.1<=1000)/\(1<=x.2.1/\x.2.1<=4)/\0<=x.2.2.1/\1<=x.2.2.2.1/\x.2.2.1+(x.2.2.2.1 - 1) * x.2.1<=x.1 - 1/\2 * ((x.2.2.2.1 - 1) * x.2.1)<=x.1 - 1/\(x.2.2.2.2=1\/x.2.2.2.2=-1)
def stF(x:Sd):Int:=if x.2.2.2.2 < 0 then x.2.2.1+(x.2.2.2.1 - 1) * x.2.1 else x.2.2.1
def axF:Int->List Sd->List (Int × Int)
 | _,[]=>[]
 | r,x::X=>(x.2.2.2.1,x.2.2.2.2 * x.2.1 * r)::axF (r * x.1) X
def fiF:Int->List Sd->Int
 | _,[]=>0
 | r,x::X=>stF x * r+fiF (r * x.1) X
def szP:List Sd->Int
 | []=>1
 | x::X=>x.1 * szP X
def dS:List Sd->List Sd->Prop
 | [],[]=>True
 | x::X,y::Y=>(x.1=y.1/\x.2.1=y.2.1)/\dS X Y
 | _,_=>False
def jm(x y:Sd):Prop:=∃ i j:Int,(0<=i/\i < x.2.2.2.1)/\(0<=j/\j < y.2.2.2.1)/\x.2.2.1+x.2.1 * i=y.2.2.1+y.2.1 * j
def lK:List Sd->List Sd->Prop
 | [],[]=>True
 | x::X,y::Y=>jm x y/\lK X Y
 | _,_=>False
theorem pw:∀ (X:List Sd) (r:Int),(axF r X).length=X.length
 | [],_=>rfl
 | x::X,r=>L6 (· + 1) (pw X (r * x.1))
theorem nE:∀ {X:List Sd},(∀ x∈X,eT x)->1<=szP X
 | [],_=>Lp _
 | x::X,h=>by
  have ih:=nE (X:=X) λ y hy=>h y (KZ _ hy);have hx:=(h x K1).1;have:=Ly hx.1 ih ⋯ %[0|8]
  show 1<=x.1 * szP X
  omega
theorem dig{x:Sd}(h:eT x){y:Int}(hy:0<=y/\y < x.2.2.2.1):∃ i,(0<=i/\i < x.2.2.2.1)/\stF x+x.2.2.2.2 * x.2.1 * y=x.2.2.1+x.2.1 * i:=by
 obtain⟨_,_,_,_,_,_,hw⟩:=h;unfold stF
 rcases hw with e|e
 ·rw [e,K5 ⋯,LR];exact⟨y,hy,rfl⟩
 ·rw [e,K7 ⋯];refine⟨x.2.2.2.1 - 1 - y,by omega,?_⟩;rw [MV,L8,Nk,LM (x.2.2.2.1 - 1)];omega
theorem J8{x:Sd}(h:eT x){i:Int}(hi:0<=i/\i < x.2.2.2.1):∃ y,(0<=y/\y < x.2.2.2.1)/\stF x+x.2.2.2.2 * x.2.1 * y=x.2.2.1+x.2.1 * i:=by
 obtain⟨_,_,_,_,_,_,hw⟩:=h;unfold stF
 rcases hw with e|e
 ·rw [e,K5 ⋯,LR];exact⟨i,hi,rfl⟩
 ·rw [e,K7 ⋯];refine⟨x.2.2.2.1 - 1 - i,by omega,?_⟩;rw [L8,Nk,MV,LM (x.2.2.2.1 - 1)];omega
theorem u7{x:Sd}(h:eT x){i:Int}(hi:0<=i/\i < x.2.2.2.1):0<=x.2.2.1+x.2.1 * i/\x.2.2.1+x.2.1 * i < x.1:=by
 obtain⟨_,h2,h3,_,h5,_,_⟩:=h;have m0:=LH (show 0<=x.2.1 by omega) hi.1;have m1:=Lc (show i<=x.2.2.2.1 - 1 by omega) (show 0<=x.2.1 by omega);rw [LM x.2.1 (x.2.2.2.1 - 1)] at m1;omega
theorem G5{n d1 d2 v1 v2:Int}(h1:0<=d1/\d1 < n)(h2:0<=d2/\d2 < n)(e:d1+n * v1=d2+n * v2):d1=d2/\v1=v2:=by
 have e1:(d1+n * v1) % n=d1:=by rw [Int.add_mul_emod_self_left,Int.emod_eq_of_lt h1.1 h1.2]
 have e2:(d2+n * v2) % n=d2:=by rw [Int.add_mul_emod_self_left,Int.emod_eq_of_lt h2.1 h2.2]
 have hd:d1=d2:=by rw [←e1,←e2,e]
 have hm:n * v1=n * v2:=by omega
 exact⟨hd,Int.eq_of_mul_eq_mul_left %[0|8] hm⟩
theorem kQ:∀ {X:List Sd}{r:Int}{ys:List Int},InA (axF r X) ys->∃ v,fiF r X+cF (axF r X) ys=r * v
 | [],r,[],_=>⟨0,by rw [LL];rfl⟩
 | [],_,_::_,h=>h.elim
 | _::_,_,[],h=>h.elim
 | x::X,r,y::ys,h=>by
  obtain⟨v,hv⟩:=kQ (X:=X) (r:=r * x.1) (ys:=ys) h.2;refine⟨stF x+x.2.2.2.2 * x.2.1 * y+x.1 * v,?_⟩
  show stF x * r+fiF (r * x.1) X+(x.2.2.2.2 * x.2.1 * r * y+cF (axF (r * x.1) X) ys)=_
  rw [L9,L9,←Lz r x.1 v,←hv,LM r (stF x),show r * (x.2.2.2.2 * x.2.1 * y)=x.2.2.2.2 * x.2.1 * r * y by rw [LM r,Lz,LM y r,←Lz]];omega
theorem uR:∀ {X Y:List Sd}{r:Int},1<=r->(∀ x∈X,eT x)->(∀ y∈Y,eT y)->dS X Y->((∃ ys zs,InA (axF r X) ys/\InA (axF r Y) zs/\fiF r X+cF (axF r X) ys=fiF r Y+cF (axF r Y) zs) ↔ lK X Y)
 | [],[],_,_,_,_,_=>⟨λ _=>trivial,λ _=>⟨[],[],trivial,trivial,rfl⟩⟩
 | [],_::_,_,_,_,_,h=>h.elim
 | _::_,[],_,_,_,_,h=>h.elim
 | x::X,y::Y,r,hr,hX,hY,hs=>by
  have hx:=hX x K1;have hy:=hY y K1;have hn:1<=x.1:=hx.1.1;have hr':1<=r * x.1:=by have:=Ly hr hn ⋯ %[0|8];omega
  have e1:x.1=y.1:=hs.1.1;have ih:=uR (X:=X) (Y:=Y) (r:=r * x.1) hr' (λ z hz=>hX z (KZ _ hz)) (λ z hz=>hY z (KZ _ hz)) hs.2
  have sh:∀ (z:Sd) (Z:List Sd) (u:Int) (us:List Int),fiF r (z::Z)+cF (axF r (z::Z)) (u::us)=r * (stF z+z.2.2.2.2 * z.2.1 * u)+(fiF (r * z.1) Z+cF (axF (r * z.1) Z) us):=λ z Z u us=>by
   show stF z * r+fiF (r * z.1) Z+(z.2.2.2.2 * z.2.1 * r * u+cF (axF (r * z.1) Z) us)=_
   rw [L9,LM r (stF z),show r * (z.2.2.2.2 * z.2.1 * u)=z.2.2.2.2 * z.2.1 * r * u by rw [LM r,Lz,LM u r,←Lz]];omega
  constructor
  ·rintro ⟨ys,zs,iA,iB,e⟩
   match ys,zs,iA,iB with
   | u::us,v::vs,iA,iB=>
    rw [sh,sh] at e;obtain⟨i,hi,ei⟩:=dig hx iA.1;obtain⟨j,hj,ej⟩:=dig hy iB.1;obtain⟨v1,hv1⟩:=kQ iA.2;obtain⟨v2,hv2⟩:=kQ iB.2;have b1:=u7 hx hi;have b2:=u7 hy hj;rw [←e1] at b2;rw [ei,ej,hv1,hv2,←e1,Lz,Lz,←L9,←L9] at e;have e':=Int.eq_of_mul_eq_mul_left %[0|8] e;obtain⟨q1,q2⟩:=G5 b1 b2 e';refine⟨⟨i,j,hi,hj,q1⟩,ih.mp ⟨us,vs,iA.2,by rw [e1];exact iB.2,?_⟩⟩;rw [hv1,q2];rw [←e1] at hv2;exact hv2.symm
  ·rintro ⟨⟨i,j,hi,hj,q⟩,hm⟩;obtain⟨us,vs,iA,iB,e⟩:=ih.mpr hm;obtain⟨u,hu,eu⟩:=J8 hx hi;obtain⟨v,hv,ev⟩:=J8 hy hj;refine⟨u::us,v::vs,⟨hu,iA⟩,⟨hv,by rw [←e1];exact iB⟩,?_⟩;rw [sh,sh,eu,ev,q,←e1,e]
theorem GV{m p:Int}(hm:1<=m):axW (aj (m,p))=ag p * (m - 1):=by
 show ag (if m > 1 then p else 0) * (m - 1)=_
 by_cases h:m > 1
 ·rw [K7 h]
 ·rw [K5 h,show m - 1=0 by omega,LL,LL]
theorem uT{x:Sd}{r:Int}(h:eT x)(hr:1<=r):((aj (x.2.2.2.1,x.2.2.2.2 * x.2.1 * r)).2=0\/(ag (aj (x.2.2.2.1,x.2.2.2.2 * x.2.1 * r)).2=x.2.1 * r/\2<=x.2.2.2.1))/\axW (aj (x.2.2.2.1,x.2.2.2.2 * x.2.1 * r))=(x.2.2.2.1 - 1) * x.2.1 * r/\x.2.2.2.1<=1000:=by
 obtain⟨h1,h2,h3,h4,h5,h6,hw⟩:=h;have hp:0<=x.2.1 * r:=LH %[0|8] %[0|8]
 have ea:ag (x.2.2.2.2 * x.2.1 * r)=x.2.1 * r:=by
  rcases hw with e|e
  ·rw [e,Int.one_mul];unfold ag;omega
  ·rw [e,Int.neg_one_mul,Int.neg_mul];unfold ag;omega
 have mm:=Lc (show 1<=x.2.1 by omega) (show 0<=x.2.2.2.1 - 1 by omega);refine⟨?_,?_,by omega⟩
 ·by_cases h:x.2.2.2.1 > 1
  ·exact .inr ⟨by show ag (if x.2.2.2.1 > 1 then _ else 0)=_;rw [K7 h];exact ea,by omega⟩
  ·exact .inl (K5 h)
 ·rw [GV h4,ea,LM,←Lz]
theorem nY:∀ {X Y:List Sd}{A B:List (Int × Int)}{r:Int},1<=r->(∀ x∈X,eT x)->(∀ y∈Y,eT y)->dS X Y->b5 A B->wS A+wS B < r->A.length+X.length<=8->B.length+Y.length<=8->r * szP X<=100000000000000000->b5 (A++(axF r X).map aj) (B++(axF r Y).map aj)
 | [],[],A,B,r,_,_,_,_,h,_,_,_,_=>by
  show b5 (A++[]) (B++[])
  rw [MG,MG];exact h
 | [],_::_,_,_,_,_,_,_,h,_,_,_,_,_=>h.elim
 | _::_,[],_,_,_,_,_,_,h,_,_,_,_,_=>h.elim
 | x::X,y::Y,A,B,r,hr,hX,hY,hs,h,hw,lA,lB,hle=>by
  have hx:=hX x K1;have hy:=hY y K1;have hX':∀ z∈X,eT z:=λ z hz=>hX z (KZ _ hz);have hY':∀ z∈Y,eT z:=λ z hz=>hY z (KZ _ hz);have e1:x.1=y.1:=hs.1.1;have e2:x.2.1=y.2.1:=hs.1.2;obtain⟨k1,k2,k3⟩:=uT hx hr;obtain⟨j1,j2,j3⟩:=uT hy hr;have sp:=nE hX';have hn:=hx.1;have s1:=hx.2.1;have x6:=hx.2.2.2.2.2.1;have y6:=hy.2.2.2.2.2.1;have m1:=hx.2.2.2.1;have m2:=hy.2.2.2.1;have rs:r<=x.2.1 * r:=by have:=LV s1.1 (show 0<=r by omega);omega
  have hle':r * x.1 * szP X<=100000000000000000:=by rw [Lz];exact hle
  have rn:r * x.1<=r * x.1 * szP X:=by have:=Lc sp (show 0<=r * x.1 from LH %[0|8] %[0|8]);omega
  have wsum:(x.2.2.2.1 - 1) * x.2.1 * r+(y.2.2.2.1 - 1) * y.2.1 * r<=r * x.1 - r:=by
   rw [←Int.add_mul];have:=LV (show (x.2.2.2.1 - 1) * x.2.1+(y.2.2.2.1 - 1) * y.2.1<=x.1 - 1 by omega) (show 0<=r by omega);rw [Int.sub_mul x.1,LR,LM x.1] at this;exact this
  have hv:=h.add (A1:=[aj (x.2.2.2.1,x.2.2.2.2 * x.2.1 * r)]) (B1:=[aj (y.2.2.2.1,y.2.2.2.2 * y.2.1 * r)]) (t:=x.2.1 * r) %[0|8] (λ a ha=>by rw [Ln.mp ha];exact⟨k1,m1,k3⟩) (λ a ha=>by rw [Ln.mp ha,e2];exact⟨j1,m2,j3⟩) (by rw [K9];rw [Lr] at lA;omega) (by rw [K9];rw [Lr] at lB;omega) (by
   show wS A+wS B+((axW _+0)+(axW _+0))<=_
   rw [k2,j2];omega)
  have ih:=nY (X:=X) (Y:=Y) (r:=r * x.1) (by have:=Ly hr hn.1 ⋯ %[0|8];omega) hX' hY' hs.2 hv (by
   rw [jj,jj]
   show wS A+(axW _+0)+(wS B+(axW _+0)) < _
   rw [k2,j2];omega) (by rw [K4,K9];rw [Lr] at lA;omega) (by rw [K4,K9];rw [Lr] at lB;omega) hle'
  rw [MB,MB] at ih;have ey:axF r (y::Y)=(y.2.2.2.1,y.2.2.2.2 * y.2.1 * r)::axF (r * x.1) Y:=by rw [e1];rfl
  rw [ey];exact ih
theorem uD:∀ {X:List Sd}{r:Int},1<=r->(∀ x∈X,eT x)->0<=fiF r X+bq (axF r X)/\fiF r X+br (axF r X)<=r * szP X - r
 | [],r,_,_=>by
  show 0<=(0:Int)+0/\(0:Int)+0<=r * 1 - r
  omega
 | x::X,r,hr,h=>by
  have hx:=h x K1;have hr':1<=r * x.1:=by have:=Ly hr hx.1.1 ⋯ %[0|8];omega
  have ih:=uD (X:=X) (r:=r * x.1) hr' λ z hz=>h z (KZ _ hz);obtain⟨h1,h2,h3,h4,h5,h6,hw⟩:=hx
  have ex:(x.2.2.2.1 - 1) * (x.2.2.2.2 * x.2.1 * r)=x.2.2.2.2 * ((x.2.2.2.1 - 1) * x.2.1 * r):=by
   rcases hw with e|e
   ·rw [e,LR,LR,Lz]
   ·rw [e,L8,L8,Nk,Int.mul_neg,Lz]
  have w0:0<=(x.2.2.2.1 - 1) * x.2.1 * r:=LH (LH %[0|8] %[0|8]) %[0|8];have b0:0<=x.2.2.1 * r:=LH h3 %[0|8];have bn:=LV h5 (show 0<=r by omega);rw [Int.add_mul,Int.sub_mul x.1,LR,LM x.1 r] at bn
  have es:stF x * r=x.2.2.1 * r+(if x.2.2.2.2 < 0 then (x.2.2.2.1 - 1) * x.2.1 * r else 0):=by
   unfold stF;split
   ·rw [Int.add_mul]
   ·rw [L7]
  have eP:r * szP (x::X)=r * x.1 * szP X:=by show r * (x.1 * szP X)=_;rw [Lz]
  show 0<=stF x * r+fiF (r * x.1) X+bq ((x.2.2.2.1,x.2.2.2.2 * x.2.1 * r)::axF (r * x.1) X)/\stF x * r+fiF (r * x.1) X+br ((x.2.2.2.1,x.2.2.2.2 * x.2.1 * r)::axF (r * x.1) X)<=r * szP (x::X) - r
  rw [bE,bF,eP,es]
  show 0<=_+(min 0 ((x.2.2.2.1 - 1) * (x.2.2.2.2 * x.2.1 * r))+_)/\_+(max 0 ((x.2.2.2.1 - 1) * (x.2.2.2.2 * x.2.1 * r))+_)<=_
  rw [ex];generalize (x.2.2.2.1 - 1) * x.2.1 * r=W at *
  rcases hw with e|e
  ·rw [e,LR,K5 ⋯];omega
  ·rw [e,L8,K7 ⋯];omega
theorem ux{zs:List Tm3}{cs:List (Int × Int)}(h:cs.length=zs.length):zs.zip cs=(List.range zs.length).map λ k=>(zs.getD k default,cs.getD k default):=by
 apply NW;intro i;rw [Lh]
 by_cases hi:i < zs.length
 ·rw [List.getElem?_range hi]
  show _=some (zs.getD i default,cs.getD i default)
  rw [LS,Lb,Lb,KU hi,KU (show i < cs.length by omega)];exact⟨rfl,rfl⟩
 ·rw [Mj (by rw [Mc];omega),Mj (by rw [Ng];omega)];rfl
theorem yE{zs:List Tm3}{cs:List (Int × Int)}(h:cs.length=zs.length):((List.range zs.length).map λ k=>(zs.getD k default).1 * (cs.getD k default).1).sum=bf zs cs/\((List.range zs.length).map λ k=>(zs.getD k default).1 * (cs.getD k default).2).sum=ck zs cs:=by
 unfold bf ck;rw [ux h,map_map,map_map];exact⟨rfl,rfl⟩
theorem pR{zs:List Tm3}{cs:List (Int × Int)}(h:cs.length=zs.length):(((List.range zs.length).filter λ k=>decide ((cs.getD k default).1 < (cs.getD k default).2)).map λ k=>(zs.getD k default).1)=bZ zs cs:=by
 unfold bZ;rw [ux h,List.filter_map,map_map];rfl
theorem DU{zs:List Tm3}(h:cW zs){k:Nat}(hk:k < zs.length):1<=(zs.getD k default).1/\(zs.getD k default).1<=2000000000000000000:=by
 rw [Lb,KU hk];exact(h.all _ (Mm hk)).1
abbrev mK  (p:Addr) (q:Addr) (H:Hp) (Q:VK) (E:XK):Prop:=∃ (zs:List Tm3) (cs:List (Int × Int)),gz H p zs/\du H q cs/\cW zs/\cs.length=zs.length/\∀ (r:Addr) (H':Hp),Ext H H'->H' r=some (.tup [.int (bf zs cs),.int (ck zs cs)])->Q (.ref r) H'
def nJ  : Sp:=λ vs H Q E=>∃ (p:Addr) (q:Addr),vs=[.ref p,.ref q]/\(mK  p q H Q E)
theorem dh  (p:Addr) (q:Addr) (H:Hp) (Q:VK) (E:XK):nJ  [.ref p,.ref q] H Q E=(mK  p q H Q E):=sJ (f:=λ (p:Addr) (q:Addr)=>[.ref p,.ref q]) (λ _ _ _ _ h=>by cases h;exact⟨rfl,rfl⟩) p q
theorem wD  {vs:List V}{H:Hp}{Q:VK}{E:XK}(h:nJ  vs H Q E):vs.length=2:=sL h λ _ _=>rfl
theorem eC(T:Tx K mg t):bC P w K mg base CX0 1 t.a__law_sums t.d__law_sums ["_law_terms_here", "_law_case"] nJ:=by
 refine T.F__law_sums.ok iO (λ vs H Q E h=>wD h) (λ c A o s H vs Q E hr h=>?_)
 ·obtain⟨p,q,rfl,zs,cs,⟨ts,hp,al⟩,⟨xs,hq,bl⟩,ht,hcl,k⟩:=h;refine⟨_,%[%[2,iO,%[sum,(cv rfl),%[%[(["_law_k", "_law_terms_here", "_law_case", "_law_least"]),(1),(aP (aa cw) ["_law_terms_here", "_law_case", "_law_least"] rfl rfl nofun),rfl,%[∅,T.z_range,%[%[len,aw,%[%[0|0]|1]|6]|1],∅|41],(λ C s₀ H₀ ex pn=>%[(0),_,(show List.Nodup (["_law_k", "_law_terms_here", "_law_case", "_law_least"]:List Str) from by decide +kernel),rfl,(Or.inl rfl),%[0|7]|18]),(λ C s₀ H₀ ex pn=>(@aY _)),(λ C s₀ H₀ ex pn=>%[bh,%[ay,%[ay,%[1|0],%[0|0],(λ _ _=>rfl)|9],%[0|2],(λ _ _=>rfl)|9],%[ay,%[ay,%[2|0],%[0|0],(λ _ _=>rfl)|9],%[0|2],(λ _ _=>rfl)|9]|12]),(by intros;rfl)|26]|1]|6]|4],%[%[%[%[%[2|0],%[%[sum,(cv rfl),%[%[(["_law_k", "_law_terms_here", "_law_case", "_law_least"]),(1),(aP (aa cw) ["_law_terms_here", "_law_case", "_law_least"] rfl rfl nofun),rfl,%[∅,T.z_range,%[%[len,aw,%[%[0|0]|1]|6]|1],∅|41],(λ C s₀ H₀ ex pn=>%[(0),_,(show List.Nodup (["_law_k", "_law_terms_here", "_law_case", "_law_least"]:List Str) from by decide +kernel),rfl,(Or.inl rfl),%[0|7]|18]),(λ C s₀ H₀ ex pn=>(@aY _)),(λ C s₀ H₀ ex pn=>%[bh,%[ay,%[ay,%[1|0],%[0|0],(λ _ _=>rfl)|9],%[0|2],(λ _ _=>rfl)|9],%[ay,%[ay,%[2|0],%[0|0],(λ _ _=>rfl)|9],%[0|2],(λ _ _=>rfl)|9]|12]),(by intros;rfl)|26]|1]|6]|1]|1]|17]|13]|11]|10],?_⟩;rw [show start ["_law_terms_here", "_law_case", "_law_least"] [.ref p,.ref q]=[some (.ref p),some (.ref q),none] from rfl];have h17:=ht.len;have htl:ts.length=zs.length:=al.1;obtain⟨sm1,sm2⟩:=yE hcl;exists k;exists al;exists bl;exists sm1;exists sm2;ac_rfl;refine⟨by omega,by omega,?_⟩;refine bM (List.range ((zs.length:Int)).toNat) (λ _=>true) (λ k=>.int ((zs.getD k default).1 * (cs.getD k default).1)) (λ j x H'=>x=.int (0+(j:Nat))) ji.1 ji.2 (az (by rw [Ng];omega)) ?_ ?_
  ·intro D k x H' N1 N0 hk hD e hx k1 _;subst hx;have hkr:=MF.mp hk;have hkz:k < zs.length:=by omega
   have hkc:k < cs.length:=by omega
   obtain⟨c1,c2,hu⟩:=fq (bl ()) hkc;obtain⟨z1,z2,hz⟩:=lL (al ()) hkz;have hp':=e.at hp;have hq':=e.at hq;have hu':=e.at hu;have hz':=e.at hz;have tt:=DU ht hkz;have k1':N1 (.int ((zs.getD k default).1 * (cs.getD k default).1)) H':=k1 rfl H' (Ext.refl _);have cm:gS (zs.getD k default).1 (cs.getD k default).1:=.inl ⟨by omega,by omega⟩;generalize zs.getD k default=zi at *;generalize cs.getD k default=ci at *;clear k1 hk hp hq hu hz sm1 sm2;simp! only [↓bW,↓aU]
  intro D H1 hD e1 h1;rw [lE,LK,show ((List.range zs.length).map λ k=>V.int ((zs.getD k default).1 * (cs.getD k default).1))=((List.range zs.length).map λ k=>(zs.getD k default).1 * (cs.getD k default).1).map V.int by rw [Mi];rfl] at h1;have hp1:=e1.at hp;have sm1':=sm1 ();generalize ((List.range zs.length).map λ k=>(zs.getD k default).1 * (cs.getD k default).1)=ls at h1 sm1';clear hD sm1;ac_rfl;refine⟨by omega,by omega,?_⟩;clear sm1' h1;refine bM (List.range ((zs.length:Int)).toNat) (λ _=>true) (λ k=>.int ((zs.getD k default).1 * (cs.getD k default).2)) (λ j x H'=>x=.int (0+(j:Nat))) ji.1 ji.2 (az (by rw [Ng];omega)) ?_ ?_
  ·intro D k x H' N1 N0 hk hD e hx k1 _;subst hx;have hkr:=MF.mp hk;have hkz:k < zs.length:=by omega
   have hkc:k < cs.length:=by omega
   obtain⟨c1,c2,hu⟩:=fq (bl ()) hkc;obtain⟨z1,z2,hz⟩:=lL (al ()) hkz;have hp':=e.at hp1;have hq':=(e1.trans e).at hq;have hu':=(e1.trans e).at hu;have hz':=(e1.trans e).at hz;have tt:=DU ht hkz;have k1':N1 (.int ((zs.getD k default).1 * (cs.getD k default).2)) H':=k1 rfl H' (Ext.refl _);have cm:gS (zs.getD k default).1 (cs.getD k default).2:=.inl ⟨by omega,by omega⟩;generalize zs.getD k default=zi at *;generalize cs.getD k default=ci at *;clear k1 hk hp hq hu hz hp1 sm2;simp! only [↓bW,↓aU]
  intro D2 H2 hD2 e2 h2;rw [lE,LK,show ((List.range zs.length).map λ k=>V.int ((zs.getD k default).1 * (cs.getD k default).2))=((List.range zs.length).map λ k=>(zs.getD k default).1 * (cs.getD k default).2).map V.int by rw [Mi];rfl] at h2;have sm2':=sm2 ();generalize ((List.range zs.length).map λ k=>(zs.getD k default).1 * (cs.getD k default).2)=gs at h2 sm2';clear hD2 sm2;ac_rfl;intro r3 H3 _ e3 h3;exact k () r3 H3 (e1.trans (e2.trans e3)) h3
abbrev qx  (p:Addr) (H:Hp) (Q:VK) (E:XK):Prop:=∃ ns:List Int,H p=some (.lst (ns.map V.int))/\(∀ n∈ns,0<=n)/\Q (.int (iZ ns)) H
def tT  : Sp:=λ vs H Q E=>∃ (p:Addr),vs=[.ref p]/\(qx  p H Q E)
theorem zN  (p:Addr) (H:Hp) (Q:VK) (E:XK):tT  [.ref p] H Q E=(qx  p H Q E):=xt (f:=λ (p:Addr)=>[.ref p]) (λ _ _ h=>by cases h;exact rfl) p
theorem yN  {vs:List V}{H:Hp}{Q:VK}{E:XK}(h:tT  vs H Q E):vs.length=1:=sO h λ _=>rfl
theorem iT(T:Tx K mg t):bC P w K mg base CX0 1 t.a__law_divisor t.d__law_divisor ["_law_numbers"] tT:=by
 refine T.F__law_divisor.ok aW (λ vs H Q E h=>yN h) (λ c A o s H vs Q E hr h=>?_)
 ·obtain⟨p,rfl,ns,hp,hn,k⟩:=h;refine⟨_,%[%[1,aW,%[0|2]|4],%[%[Lv,rfl,%[%[0|0]|24],%[2,aW|5],%[%[3,aW,%[1|0]|4],%[(@kF _ _ _ _ _ _ Lv %[dR,%[2|0],%[0|2],(ai _)|14] %[(@ES _ _ (3) (2) _ _ _ _ _ _ _ _ _ _ _ rfl aW.nd rfl rfl ⋯ rfl rfl %[%[2|0],%[%[dN,%[3|0],%[2|0]|12]|1]|1] rfl ∅)|11]),%[%[1,aW,%[3|0]|4]|11]|10]|10],(by intros;rfl)|30],%[%[%[1|0]|13]|11]|10]|10],?_⟩;rw [show start ["_law_numbers", "_law_found", "_law_other", "_law_one"] [.ref p]=[some (.ref p),none,none,none] from rfl];exists hn;ac_rfl;refine ed (xs:=ns.map V.int) (λ i σ H'=>∃ v w:Option V,σ=[some (.ref p),some (.int (iZ (ns.take i))),v,w]/\H'=H) ⟨none,none,rfl,rfl⟩ (λ i σ H' _ ⟨_,_,_,e⟩=>by rw [e];exact hp) ?_ ?_
  ·rintro i y _ _ hi ⟨v,w',rfl,rfl⟩;rename_i H;rw [Lh] at hi;obtain⟨z,hz,rfl⟩:=Lm.mp hi;have e1:=mv ns i z hz;have hz0:=hn () z (My hz);have hg0:=om (ns.take i);generalize iZ (ns.take (i+1))=g1 at *;generalize iZ (ns.take i)=g0 at *;exists e1;clear hz hi k;simp! only [↓aE];refine nB (by repeat' first|exact A2|exact uo|exact mo_nI|apply kI|apply mo_unN|exact o9|exact HA|exact pd|exact mo_rI|exact mo_rIsN|exact mo_rNotN|exact uk|exact mo_qIx|exact um|exact nZ|apply j7|apply mo_tB|apply mo_not|apply mo_and|apply mo_or|apply A3|apply mo_un|apply oa|apply mo_qLst|apply A4) (λ m σ H'=>∃ (f r:Int),σ=[some (.ref p),some (.int g0),some (.int r),some (.int f)]/\H'=H/\m=r.toNat/\0<=f/\0<=r/\Int.gcd f r=Int.gcd g0 z) _ ⟨g0,z,rfl,rfl,rfl,hg0,hz0,rfl⟩ ?_;rintro m _ _ ⟨f,r,rfl,rfl,rfl,hf,hr',hg⟩;rename_i H
   by_cases hz:r=0
   ·subst hz;have e:f=g1:=by rw [e1 (),←hg];exact(p6 f hf).symm
    clear hg hn e1;ac_rfl;exact⟨_,_,rfl⟩
   ·have hp:0 < r:=by omega
    have e1:=p7 f r hp hf;have e2:=Mg f hp;have e3:=LP f hz;have e4:=λ (_:Unit)=>e1.trans hg;clear hg e1 hn;ac_rfl;exact⟨_,by omega,_,_,rfl,rfl,hr',e3,e4 ()⟩
  ·rintro _ _ ⟨v,w',rfl,rfl⟩;rename_i H;have e2:iZ (ns.take (ns.map V.int).length)=iZ ns:=by rw [K2,Mw]
   rw [e2];clear e2;ac_rfl
theorem zD{g l gr r:Int}(h:g < l):cj g l gr r=true:=by unfold cj;rw [decide_eq_true h];rfl
theorem zC{g l gr r:Int}(h:gr < g):cj g l gr r=true:=by unfold cj;rw [decide_eq_true h,Bool.or_true];rfl
theorem zB{g l gr r:Int}(h:1 < r)(h':(g - l) % r ≠ 0):cj g l gr r=true:=by
 unfold cj;have:=Int.emod_nonneg (g - l) (show r ≠ 0 by omega);rw [decide_eq_true h,decide_eq_true (show 0 < (g - l) % r by omega),Bool.true_and,Bool.or_true]
theorem zA{g l gr r:Int}(h1:¬ g < l)(h2:¬ gr < g)(h3:¬ 1 < r):cj g l gr r=false:=by unfold cj;rw [decide_eq_false h1,decide_eq_false h2,decide_eq_false h3];rfl
theorem zz{g l gr r:Int}(h1:¬ g < l)(h2:¬ gr < g)(h3:(g - l) % r=0):cj g l gr r=false:=by unfold cj;rw [decide_eq_false h1,decide_eq_false h2,h3,decide_eq_false (Int.lt_irrefl 0),Bool.and_false];rfl
abbrev qy  (p:Addr) (g:Int) (q:Addr) (H:Hp) (Q:VK) (E:XK):Prop:=∃ (zs:List Tm3) (cs:List (Int × Int)),gz H p zs/\du H q cs/\cW zs/\cU zs cs/\∀ H',Ext H H'->Q (.bl (cV zs cs g)) H'
def tU  : Sp:=λ vs H Q E=>∃ (p:Addr) (g:Int) (q:Addr),vs=[.ref p,.int g,.ref q]/\(qy  p g q H Q E)
theorem zO  (p:Addr) (g:Int) (q:Addr) (H:Hp) (Q:VK) (E:XK):tU  [.ref p,.int g,.ref q] H Q E=(qy  p g q H Q E):=ni (f:=λ (p:Addr) (g:Int) (q:Addr)=>[.ref p,.int g,.ref q]) (λ _ _ _ _ _ _ h=>by cases h;exact⟨rfl,rfl,rfl⟩) p g q
theorem yO  {vs:List V}{H:Hp}{Q:VK}{E:XK}(h:tU  vs H Q E):vs.length=3:=nj h λ _ _ _=>rfl
theorem kZ(T:Tx K mg t):bC P w K mg base CX0 2 t.a__law_ended t.d__law_ended ["_law_terms_here", "_law_goal", "_law_case"] tU:=by
 have G__law_sums:=%[eC|46];have G__law_divisor:=%[iT|46];refine T.F__law_ended.ok cS (λ vs H Q E h=>yO h) (λ c A o s H vs Q E hr h=>?_)
 ·obtain⟨p,g,q,rfl,zs,cs,hp,hq,ht,hc,k⟩:=h;refine⟨_,%[%[%[_law_sums,%[%[0|0],%[%[2|0]|1]|1]|3],(%[(2),rfl,%[%[3,cS|5],%[%[4,cS|5],(@aB _),∅|15],∅|15],∅,∅|22].mono λ _ _ _ _ h=>aZ h),∅,∅,∅|37],%[%[5,cS,%[_law_divisor,%[%[(["_law_k", "_law_terms_here", "_law_goal", "_law_case", "_law_least", "_law_greatest", "_law_rest_here"]),(1),(aP (aa cN) ["_law_terms_here", "_law_goal", "_law_case", "_law_least", "_law_greatest", "_law_rest_here"] rfl rfl nofun),rfl,%[∅,T.z_range,%[%[len,aw,%[%[0|0]|1]|6]|1],∅|41],(λ C s₀ H₀ ex pn=>%[(0),_,(show List.Nodup (["_law_k", "_law_terms_here", "_law_goal", "_law_case", "_law_least", "_law_greatest", "_law_rest_here"]:List Str) from by decide +kernel),rfl,(Or.inl rfl),%[0|7]|18]),(λ C s₀ H₀ ex pn=>(@nS _ _ _ %[cD,%[ay,%[ay,%[3|0],%[0|0],(λ _ _=>rfl)|9],%[0|2],(λ _ _=>rfl)|9],%[ay,%[ay,%[3|0],%[0|0],(λ _ _=>rfl)|9],%[0|2],(λ _ _=>rfl)|9],(ai _)|14])),(λ C s₀ H₀ ex pn=>%[ay,%[ay,%[1|0],%[0|0],(λ _ _=>rfl)|9],%[0|2],(λ _ _=>rfl)|9]),(by intros;rfl)|26]|1]|3]|4],%[%[(@An _ _ _ _ _ _ _ %[dR,%[3|0],%[1|0],(ai _)|28] (@An _ _ _ _ _ _ _ %[cD,%[4|0],%[1|0],(ai _)|28] %[%[%[dR,%[5|0],%[0|2],(ai _)|28],%[%[dR,%[dN,%[aF,%[1|0],%[3|0]|12],%[5|0]|12],%[0|2],(ai _)|28]|33]|31]|33]))|13]|11]|10]|10],?_⟩;rw [show start ["_law_terms_here", "_law_goal", "_law_case", "_law_least", "_law_greatest", "_law_rest_here"] [.ref p,.int g,.ref q]=[some (.ref p),some (.int g),some (.ref q),none,none,none] from rfl];clear G__law_sums G__law_divisor;have h17:=ht.len;have hcl:=hc.len;have rs:=pR hcl;unfold cV at k;exists k;exists rs;exists hcl;ac_rfl;rw [dh];refine⟨zs,cs,hp,hq,ht,hcl (),λ r1 H1 e1 h1=>?_⟩;obtain⟨ts,hp1,al⟩:=bL hp e1;obtain⟨xs,hq1,bl⟩:=aC hq e1;have htl:ts.length=zs.length:=al.1;exists al;exists bl;clear hp hq;ac_rfl;refine⟨by omega,by omega,?_⟩;refine bM (List.range ((zs.length:Int)).toNat) (λ k=>decide ((cs.getD k default).1 < (cs.getD k default).2)) (λ k=>.int (zs.getD k default).1) (λ j x H'=>x=.int (0+(j:Nat))) ji.1 ji.2 (az (by rw [List.length_range];omega)) ?_ ?_
  ·intro D k x H' N1 N0 hk hD e hx k1 k0;subst hx;have hkr:=MF.mp hk;have hkz:k < zs.length:=by omega
   have hkc:k < cs.length:=by have:=hcl ();omega
   obtain⟨c1,c2,hu⟩:=fq (bl ()) hkc;obtain⟨z1,z2,hz⟩:=lL (al ()) hkz;have hp':=e.at hp1;have hq':=e.at hq1;have hu':=e.at hu;have hz':=e.at hz;generalize zs.getD k default=zi at *;generalize cs.getD k default=ci at *;clear hk hp1 hq1 hu hz rs
   by_cases hlt:ci.1 < ci.2
   ·have k1':N1 (.int zi.1) H':=k1 (Ll hlt) H' (Ext.refl _);clear k1 k0;simp! only [↓bW,↓aU]
   ·have k0':N0 H':=k0 (Lj hlt) H' (Ext.refl _);clear k1 k0;simp! only [↓bW,↓aU]
  intro D H2 hD e2 h2;rw [LK,show (((List.range zs.length).filter λ k=>decide ((cs.getD k default).1 < (cs.getD k default).2)).map λ k=>V.int (zs.getD k default).1)=(bZ zs cs).map V.int by rw [←rs (),Mi];rfl] at h2
  have hnn:∀ n∈bZ zs cs,(0:Int)<=n:=λ n hn=>by
   unfold bZ at hn;obtain⟨z,hz,rfl⟩:=List.mem_map.mp hn;have:=(ht.all z.1 (of_mem_zip (show (z.1,z.2)∈zs.zip cs from (List.mem_filter.mp hz).1)).1).1;omega
  have hgn:=om (bZ zs cs);exists hnn;clear hD;ac_rfl;rw [zN];refine⟨_,h2,hnn (),?_⟩;have k':=λ (_:Unit)=>k () H2 (e1.trans e2);clear k hnn h2 rs;generalize iZ (bZ zs cs)=r at *;generalize bf zs cs=l at *;generalize ck zs cs=gr at *
  by_cases x1:g < l
  ·have k2:=k' ();rw [zD x1] at k2;clear k';ac_rfl
  by_cases x2:gr < g
  ·have k2:=k' ();rw [zC x2] at k2;clear k';ac_rfl
  by_cases x3:1 < r
  ·have hr0:0 < r:=by omega
   by_cases x4:0 < (g - l) % r
   ·have k2:=k' ();rw [zB x3 %[0|8]] at k2;clear k';ac_rfl
   ·have x5:(g - l) % r=0:=by have:=LP (g - l) (show r ≠ 0 by omega);omega
    have k2:=k' ();rw [zz x1 x2 x5] at k2;clear k' x5;ac_rfl
  ·have k2:=k' ();rw [zA x1 x2 x3] at k2;clear k';ac_rfl
theorem BB{zs:List Tm3}{cs:List (Int × Int)}{d:Int}{k:Nat}(hl:cs.length=zs.length)(h:∀ n∈bZ zs cs,d ∣ n)(hk:k < zs.length)(hlt:(cs.getD k default).1 < (cs.getD k default).2):(zs.getD k default).1 % d=0:=by
 refine Nl (h _ ?_);rw [←pR hl];exact Lo.mpr ⟨k,Ml.mpr ⟨MF.mpr hk,Ll hlt⟩,rfl⟩
abbrev mL  (p:Addr) (g:Int) (q:Addr) (d:Int) (H:Hp) (Q:VK) (E:XK):Prop:=∃ (zs:List Tm3) (cs:List (Int × Int)),gz H p zs/\du H q cs/\cW zs/\cU zs cs/\2<=d/\(∀ n∈bZ zs cs,d ∣ n)/\0 < (g - bf zs cs) % d/\∀ H',Ext H H'->Q (.bl true) H'
def nK  : Sp:=λ vs H Q E=>∃ (p:Addr) (g:Int) (q:Addr) (d:Int),vs=[.ref p,.int g,.ref q,.int d]/\(mL  p g q d H Q E)
theorem xh  (p:Addr) (g:Int) (q:Addr) (d:Int) (H:Hp) (Q:VK) (E:XK):nK  [.ref p,.int g,.ref q,.int d] H Q E=(mL  p g q d H Q E):=zT (f:=λ (p:Addr) (g:Int) (q:Addr) (d:Int)=>[.ref p,.int g,.ref q,.int d]) (λ _ _ _ _ _ _ _ _ h=>by cases h;exact⟨rfl,rfl,rfl,rfl⟩) p g q d
theorem wF  {vs:List V}{H:Hp}{Q:VK}{E:XK}(h:nK  vs H Q E):vs.length=4:=zU h λ _ _ _ _=>rfl
theorem mU(T:Tx K mg t):bC P w K mg base CX0 2 t.a__law_rest t.d__law_rest ["_law_terms_here", "_law_goal", "_law_case", "_law_by"] nK:=by
 have G__law_sums:=%[eC|46];have G__law_whole:=%[dJ|46];refine T.F__law_rest.ok iP (λ vs H Q E h=>wF h) (λ c A o s H vs Q E hr h=>?_)
 ·obtain⟨p,g,q,d,rfl,zs,cs,hp,hq,ht,hc,hd,hdv,hrs,k⟩:=h;refine⟨_,%[%[(PW.pt %[%[%[%[_law_whole,%[%[3|0]|1]|3],(by intros;rfl)|19]|20],%[%[cD,%[3|0],%[0|2],(ai _)|14]|29]|21]),%[%[(@cC _ _ _ _)|13]|11],(@ar _)|16],%[%[Lv,rfl,%[∅,T.z_range,%[%[len,aw,%[%[0|0]|1]|6]|1],∅|41],%[4,iP|5],%[%[(PW.pt %[%[cD,%[ay,%[ay,%[2|0],%[4|0],(λ _ _=>rfl)|9],%[0|2],(λ _ _=>rfl)|9],%[ay,%[ay,%[2|0],%[4|0],(λ _ _=>rfl)|9],%[0|2],(λ _ _=>rfl)|9],(ai _)|14],(@dz _ _ _ _ %[dR,%[dN,%[ay,%[ay,%[0|0],%[4|0],(λ _ _=>rfl)|9],%[0|2],(λ _ _=>rfl)|9],%[3|0]|12],%[0|2],(ai _)|14])|36]),%[%[(@cC _ _ _ _)|13]|11],(@ar _)|16]|11],(by intros;rfl)|30],%[%[%[dR,%[dN,%[aF,%[1|0],%[ay,%[_law_sums,%[%[0|0],%[%[2|0]|1]|1]|3],%[0|2],(λ _ _=>rfl)|9]|12],%[3|0]|12],%[0|2],(ai _)|28]|13]|11]|10]|10],?_⟩;rw [show start ["_law_terms_here", "_law_goal", "_law_case", "_law_by", "_law_k"] [.ref p,.int g,.ref q,.int d]=[some (.ref p),some (.int g),some (.ref q),some (.int d),none] from rfl];clear G__law_sums G__law_whole;have h17:=ht.len;have hcl:=hc.len;have ra:∀ k,k < zs.length->(cs.getD k default).1 < (cs.getD k default).2->(zs.getD k default).1 % d=0:=λ k hk hlt=>BB hcl hdv hk hlt;obtain⟨ts,hp1,al⟩:=hp;obtain⟨xs,hq1,bl⟩:=hq;have htl:ts.length=zs.length:=al.1;have hd1:¬ d < 2:=by omega
  have hd0:0 < d:=by omega
  exists k;exists ra;exists hcl;exists al;exists bl;clear hdv;simp! only [↓bR];refine⟨by omega,by omega,?_⟩;refine kd (λ j σ H'=>∃ v:Option V,σ=[some (.ref p),some (.int g),some (.ref q),some (.int d),v]/\H'=H) ⟨none,rfl,rfl⟩ ?_ ?_
  ·rintro j _ _ hj ⟨v,rfl,rfl⟩;rename_i H;have hkz:j < zs.length:=by have:j < ((zs.length:Int)).toNat:=hj;omega
   have hkc:j < cs.length:=by have:=hcl ();omega
   obtain⟨c1,c2,hu⟩:=fq (bl ()) hkc;obtain⟨z1,z2,hz⟩:=lL (al ()) hkz;have ra':=ra () j hkz;generalize zs.getD j default=zi at *;generalize cs.getD j default=ci at *;clear hj k ra
   by_cases hlt:ci.1 < ci.2
   ·have ra2:=ra' hlt;clear ra';simp! only [↓aE];exact⟨_,rfl⟩
   ·clear ra';simp! only [↓aE];exact⟨_,rfl⟩
  ·rintro _ _ ⟨v,rfl,rfl⟩;rename_i H;ac_rfl;rw [dh];refine⟨zs,cs,⟨ts,hp1,al ()⟩,⟨xs,hq1,bl ()⟩,ht,hcl (),λ r1 H1 e1 h1=>?_⟩;have k':=k () H1 e1;clear k ra;ac_rfl
theorem pJ{xs:List V}{k:Nat}{y:V}(hk:k < xs.length):xs.take k++[y]++xs.drop (k+1)=xs.set k y:=by
 rw [List.set_eq_take_append_cons_drop,K7 hk,MB];rfl
def AK(H0 H:Hp)(more:List Bx)(ys:List V):Prop:=Al (λ c y=>∃ a,y=.ref a/\H0 a=none/\du H a c) more.reverse ys
abbrev qz  (p:Addr) (g:Int) (q:Addr) (x:Addr) (H:Hp) (Q:VK) (E:XK):Prop:=∃ (zs:List Tm3) (cs:Bx) (ss:List V) (more:List Bx),gz H p zs/\du H q cs/\cW zs/\cU zs cs/\H x=some (.tup ss)/\dZ zs g cs ss more/\∀ (r:Addr) (ys:List V) (H':Hp),Ext H H'->H' r=some (.lst ys)->AK H H' more ys->Q (.ref r) H'
def tW  : Sp:=λ vs H Q E=>∃ (p:Addr) (g:Int) (q:Addr) (x:Addr),vs=[.ref p,.int g,.ref q,.ref x]/\(qz  p g q x H Q E)
theorem zP  (p:Addr) (g:Int) (q:Addr) (x:Addr) (H:Hp) (Q:VK) (E:XK):tW  [.ref p,.int g,.ref q,.ref x] H Q E=(qz  p g q x H Q E):=zT (f:=λ (p:Addr) (g:Int) (q:Addr) (x:Addr)=>[.ref p,.int g,.ref q,.ref x]) (λ _ _ _ _ _ _ _ _ h=>by cases h;exact⟨rfl,rfl,rfl,rfl⟩) p g q x
theorem yP  {vs:List V}{H:Hp}{Q:VK}{E:XK}(h:tW  vs H Q E):vs.length=4:=zU h λ _ _ _ _=>rfl
theorem ja(T:Tx K mg t):bC P w K mg base CX0 3 t.a__law_behind t.d__law_behind ["_law_terms_here", "_law_goal", "_law_case", "_law_step"] tW:=by
 have G__law_sums:=%[eC|46];have G__law_whole:=%[dJ|46];have G__law_rest:=%[mU|46];refine T.F__law_behind.ok bc (λ vs H Q E h=>yP h) (λ c A o s H vs Q E hr h=>?_)
 ·obtain⟨p,g,q,x,rfl,zs,cs,ss,more,hp,hq,ht,hc,hx,hs,k⟩:=h;refine⟨_,%[%[(PW.pt %[%[%[%[isinstance,aK,%[%[3|0],%[%[(.ty "tuple"),(.type "tuple"),_,∅,T.z_tuple,nofun,rfl,⋯,⋯|32]|1]|1]|6],(by intros;rfl)|19]|20],%[%[cD,%[len,aw,%[%[3|0]|1]|6],%[0|2],(ai _)|14],%[%[dR,%[len,aw,%[%[3|0]|1]|6],%[0|2],(ai _)|14]|29]|21]|21]),%[%[(@dM _ _ _)|13]|11],(@ar _)|16],%[%[%[_law_sums,%[%[0|0],%[%[2|0]|1]|1]|3],(%[(2),rfl,%[%[4,bc|5],%[%[5,bc|5],(@aB _),∅|15],∅|15],∅,∅|22].mono λ _ _ _ _ h=>aZ h),∅,∅,∅|37],%[%[(PW.pt %[(PW.pt %[%[(cg hr.units),%[3|0],%[%[(@bH _ _ _ _)|1]|17],(ai _)|14],(@dz _ _ _ _ %[dR,%[4|0],%[1|0],(ai _)|14])|36]),%[(PW.pt %[%[(cg hr.units),%[3|0],%[%[(@bH _ _ _ _)|1]|17],(ai _)|14],(@dz _ _ _ _ %[cD,%[5|0],%[1|0],(ai _)|14])|36])|29]|21]),%[%[%[(@cc _)|23]|13]|11],(@ar _)|16],%[%[(PW.pt %[%[(cg hr.units),%[len,aw,%[%[3|0]|1]|6],%[0|2],(ai _)|14],%[%[(cg hr.units),%[ay,%[3|0],%[0|2],(λ _ _=>rfl)|9],(@bH _ _ _ _),(ai _)|14],(@dz _ _ _ _ %[%[_law_rest,%[%[0|0],%[%[1|0],%[%[2|0],%[%[ay,%[3|0],%[0|2],(λ _ _=>rfl)|9]|1]|1]|1]|1]|3],(by intros;rfl)|19])|36]|36]),%[%[%[(@cc _)|23]|13]|11],(@ar _)|16],%[%[(PW.pt %[%[cD,%[len,aw,%[%[3|0]|1]|6],%[0|2],(ai _)|14],%[%[(cH hr.units),%[ay,%[3|0],%[0|2],(λ _ _=>rfl)|9],(@bH _ _ _ _),(ai _)|14],%[%[%[%[_law_whole,%[%[ay,%[3|0],%[0|2],(λ _ _=>rfl)|9]|1]|3],(by intros;rfl)|19]|20],%[%[%[%[_law_whole,%[%[ay,%[3|0],%[0|2],(λ _ _=>rfl)|9]|1]|3],(by intros;rfl)|19]|20]|29]|21]|21]|21]),%[%[(@dM _ _ _)|13]|11],(@ar _)|16],%[%[%[3|0],(%[(3),rfl,%[%[6,bc|5],%[%[7,bc|5],%[%[8,bc|5],(@aB _),∅|15],∅|15],∅|15],∅,∅|22].mono λ _ _ _ _ h=>aZ h),∅,∅,∅|37],%[%[(PW.pt %[%[%[i7,cD,%[0|2],%[7|0],%[len,aw,%[%[0|0]|1]|6],∅|45]|20],%[%[%[i7,cD,%[ay,%[ay,%[2|0],%[7|0],(λ _ _=>rfl)|9],%[0|2],(λ _ _=>rfl)|9],%[8|0],%[ay,%[ay,%[2|0],%[7|0],(λ _ _=>rfl)|9],%[0|2],(λ _ _=>rfl)|9],∅|45]|20]|29]|21]),%[%[(@dM _ _ _)|13]|11],(@ar _)|16],%[%[%[%[%[fM,%[fM,%[DH,%[2|0],(@eX _),(@eW _ _ _ %[7|0])|40],%[%[%[%[%[aH,%[8|0],%[0|2]|12],%[%[ay,%[ay,%[2|0],%[7|0],(λ _ _=>rfl)|9],%[0|2],(λ _ _=>rfl)|9]|1]|1]|17]|1]|23]|12],%[DH,%[2|0],(@eW _ _ _ %[aH,%[7|0],%[0|2]|12]),(@eX _)|40]|12],%[%[fM,%[fM,%[DH,%[2|0],(@eX _),(@eW _ _ _ %[7|0])|40],%[%[%[%[%[ay,%[ay,%[2|0],%[7|0],(λ _ _=>rfl)|9],%[0|2],(λ _ _=>rfl)|9],%[%[8|0]|1]|1]|17]|1]|23]|12],%[DH,%[2|0],(@eW _ _ _ %[aH,%[7|0],%[0|2]|12]),(@eX _)|40]|12]|1]|1]|23]|13]|11]|10]|10]|10]|10]|10]|10]|10],?_⟩;rw [show start ["_law_terms_here", "_law_goal", "_law_case", "_law_step", "_law_least", "_law_greatest", "_law_word", "_law_k", "_law_at"] [.ref p,.int g,.ref q,.ref x]=[some (.ref p),some (.int g),some (.ref q),some (.ref x),none,none,none,none,none] from rfl];clear G__law_sums G__law_whole G__law_rest;have h17:=ht.len;have hcl:=hc.len;exists k;exists hcl;have so1:PyData.strOk (Str.ofString "low")=true:=by decide +kernel
  have so2:PyData.strOk (Str.ofString "high")=true:=by decide +kernel
  have so3:PyData.strOk (Str.ofString "rest")=true:=by decide +kernel
  have so4:PyData.strOk (Str.ofString "part")=true:=by decide +kernel
  have sq1:(Str.ofString "low" == Str.ofString "low")=true:=by decide +kernel
  have sq2:(Str.ofString "high" == Str.ofString "high")=true:=by decide +kernel
  have sq3:(Str.ofString "high" == Str.ofString "low")=false:=by decide +kernel
  have sq4:(Str.ofString "rest" == Str.ofString "low")=false:=by decide +kernel
  have sq5:(Str.ofString "rest" == Str.ofString "high")=false:=by decide +kernel
  have sq6:(Str.ofString "part" == Str.ofString "low")=false:=by decide +kernel
  have sq7:(Str.ofString "part" == Str.ofString "high")=false:=by decide +kernel
  have sq8:(Str.ofString "rest" == Str.ofString "rest")=true:=by decide +kernel
  have sq9:(Str.ofString "part" == Str.ofString "part")=true:=by decide +kernel
  rcases hs with ⟨rfl,hs,rfl⟩|⟨rfl,hs,rfl⟩|⟨d,rfl,hd,hdv,hs,rfl⟩|⟨m,a,rfl,hm,ha1,ha2,hs,rfl⟩
  ·ac_rfl;rw [dh];refine⟨zs,cs,hp,hq,ht,hcl (),λ r1 H1 e1 h1=>?_⟩;have hx1:=e1.at hx;ac_rfl;intro t2 H2 _ e2 h2;have hx2:=e2.at hx1;clear hx hx1 hp hq;ac_rfl;intro r3 H3 _ e3 h3;exact k () r3 [] H3 (e1.trans (e2.trans e3)) h3 Al.nil
  ·ac_rfl;rw [dh];refine⟨zs,cs,hp,hq,ht,hcl (),λ r1 H1 e1 h1=>?_⟩;have hx1:=e1.at hx;ac_rfl;intro t2 H2 _ e2 h2;have hx2:=e2.at hx1;clear hx hx1 hp hq;ac_rfl;intro t3 H3 _ e3 h3;have hx3:=e3.at hx2;clear hx2 h2;ac_rfl;intro r4 H4 _ e4 h4;exact k () r4 [] H4 (e1.trans (e2.trans (e3.trans e4))) h4 Al.nil
  ·ac_rfl;rw [dh];refine⟨zs,cs,hp,hq,ht,hcl (),λ r1 H1 e1 h1=>?_⟩;have hx1:=e1.at hx;exists hdv;ac_rfl;intro t2 H2 _ e2 h2;have hx2:=e2.at hx1;clear hx hx1;ac_rfl;intro t3 H3 _ e3 h3;have hx3:=e3.at hx2;have e03:=e1.trans (e2.trans e3);clear hx2 h2;ac_rfl;rw [xh];refine⟨zs,cs,bL hp e03,aC hq e03,ht,hc,hd,hdv (),hs,λ H4 e4=>?_⟩;ac_rfl;intro r5 H5 _ e5 h5;exact k () r5 [] H5 (e03.trans (e4.trans e5)) h5 Al.nil
  ·ac_rfl;rw [dh];refine⟨zs,cs,hp,hq,ht,hcl (),λ r1 H1 e1 h1=>?_⟩;have hx1:=e1.at hx;ac_rfl;intro t2 H2 _ e2 h2;have hx2:=e2.at hx1;clear hx hx1;ac_rfl;intro t3 H3 _ e3 h3;have hx3:=e3.at hx2;have e03:=e1.trans (e2.trans e3);obtain⟨ts,hp3,al⟩:=bL hp e03;obtain⟨xs,hq3,bl⟩:=aC hq e03;have htl:ts.length=zs.length:=al.1;have hxl:xs.length=cs.length:=bl.1;have hmc:m < cs.length:=by have:=hcl ();omega
   obtain⟨y,hat,hy⟩:=fq bl hmc;rw [LF] at hat;have hm0:(0:Int)<=(m:Int):=by omega
   have hm1:(m:Int) < (zs.length:Int):=by omega
   generalize hci:cs.getD m default=ci at *;exists bl;exists al;exists hci;clear hx2 h2 hp hq;have c1:jg xs none (some (m:Int))=xs.take m:=by rw [zF _ _ hm0,LK]
   have c2:jg xs (some ((m:Int)+1)) none=xs.drop (m+1):=by rw [qf _ _ %[0|8],show ((m:Int)+1).toNat=m+1 by omega]
   have ln1:(xs.take m).length<=17:=by rw [LW];have:=hcl ();omega
   have ln2:(xs.drop (m+1)).length<=17:=by rw [M1];have:=hcl ();omega
   simp! only [↓bR];intro p4 H4 _ e4 h4;have hq4:=e4.at hq3;have hy4:=e4.at hy;clear hq3 hy hp3 hx3;ac_rfl;intro t5 H5 _ e5 h5;have h4_5:=e5.at h4;have hq5:=e5.at hq4;have hy5:=e5.at hy4;clear h4 hq4 hy4;ac_rfl;intro l6 H6 _ e6 h6;have h4_6:=e6.at h4_5;have h5_6:=e6.at h5;have hq6:=e6.at hq5;have hy6:=e6.at hy5;clear h4_5 h5 hq5 hy5;refine g8 h4_6 h6 (az (by simp only [length_cons,length_nil];omega)) ?_;intro l7 H7 _ e7 h7;have h5_7:=e7.at h5_6;have hq7:=e7.at hq6;have hy7:=e7.at hy6;clear h4_6 h5_6 hq6 hy6 h6;ac_rfl;intro l8 H8 _ e8 h8;have h7_8:=e8.at h7;refine g8 h7_8 h8 (az (by simp only [length_append,length_cons,length_nil];omega)) ?_;rw [pJ %[0|8]];intro l9 H9 hl9 e9 h9;have e39:=e4.trans (e5.trans (e6.trans (e7.trans (e8.trans e9))));have hl9_0:H l9=none:=e03.free ((e4.trans (e5.trans (e6.trans (e7.trans e8)))).free hl9);have h5_9:=(e8.trans e9).at h5_7;have hq9:=(e8.trans e9).at hq7;have hy9:=(e8.trans e9).at hy7;clear h7 h8 h7_8 h5_7 hq7 hy7 e4 e5 e6 e7 e8 e9 hl9;ac_rfl;intro p4 H4 _ e4 h4;have hq4:=e4.at hq9;have hy4:=e4.at hy9;clear hq9 hy9;ac_rfl;intro t5' H5 _ e5 h5;have h4_5:=e5.at h4;have hq5:=e5.at hq4;clear h4 hq4 hy4;ac_rfl;intro l6 H6 _ e6 h6;have h4_6:=e6.at h4_5;have h5_6:=e6.at h5;have hq6:=e6.at hq5;clear h4_5 h5 hq5;refine g8 h4_6 h6 (az (by simp only [length_cons,length_nil];omega)) ?_;intro l7 H7 _ e7 h7;have h5_7:=e7.at h5_6;have hq7:=e7.at hq6;clear h4_6 h5_6 hq6 h6;ac_rfl;intro l8 H8 _ e8 h8;have h7_8:=e8.at h7;refine g8 h7_8 h8 (az (by simp only [length_append,length_cons,length_nil];omega)) ?_;rw [pJ %[0|8]];intro l10 H10 hl10 e9 h10;have e310:=e39.trans (e4.trans (e5.trans (e6.trans (e7.trans (e8.trans e9)))));have hl10_0:H l10=none:=(e03.trans e39).free ((e4.trans (e5.trans (e6.trans (e7.trans e8)))).free hl10);have h9_10:=(e4.trans (e5.trans (e6.trans (e7.trans (e8.trans e9))))).at h9;have h59_10:=(e4.trans (e5.trans (e6.trans (e7.trans (e8.trans e9))))).at h5_9;have h5_10:=(e8.trans e9).at h5_7;clear h7 h8 h7_8 h5_7 hq7 e4 e5 e6 e7 e8 e9 hl10 h9 h5_9;ac_rfl;intro r11 H11 _ e11 h11;have blN:=(bl ()).imp λ _ _ t=>axP.ext t (e310.trans e11);have u1:du H11 l9 (upC cs m a):=⟨_,e11.at h9_10,by unfold upC;rw [hci ()];exact pz blN ⟨t5,rfl,e11.at h59_10⟩⟩;have u2:du H11 l10 (loC cs m a):=⟨_,e11.at h10,by unfold loC;rw [hci ()];exact pz blN ⟨t5',rfl,e11.at h5_10⟩⟩;exact k () r11 _ H11 (e03.trans (e310.trans e11)) h11 (Al.cons' ⟨l9,rfl,hl9_0,u1⟩ (Al.cons' ⟨l10,rfl,hl10_0,u2⟩ Al.nil))
theorem Rep.len{zs:List Tm3}{g:Int}:∀ {p:List (List V)}{st:List Bx},Rep zs g st p []->st.length<=p.length
 | [],st,h=>by
  have e:st=[]:=by cases st<;>exact h
  rw [e];exact K3 _
 | _::_,[],h=>h.elim
 | _::p,c::st,⟨m,h1,h2,h3⟩=>by
  have:=Rep.len h3;rw [K4] at this;rw [Lr,Lr];omega
def BxA(H:Hp)(c:Bx)(y:V):Prop:=∃ a,y=.ref a/\du H a c
theorem dq.al{H:Hp}{cA pA:Addr}:∀ {st:List Bx}{cl:List V},dq H cA pA st cl->Al (BxA H) st.reverse cl
 | [],cl,h=>by have h':cl=[]:=h;rw [h'];exact Al.nil
 | c::st,cl,⟨cl0,y,h1,⟨a,h2,_,_,h5⟩,h3⟩=>by
  rw [h1,Mx];exact fO (dq.al h3) (Al.cons' ⟨a,h2,h5⟩ Al.nil)
theorem uI{H:Hp}{f:V->Option PyData}:∀ {cs:List Bx}{ys:List V},Al (BxA H) cs ys->aR (ys.map (eS H (eS H (eS H f))))=some (cs.map λ c=>PyData.list ((c.map λ z=>[z.1,z.2]).map λ z=>PyData.tuple (z.map PyData.int)))
 | [],ys,h=>by
  have:ys=[]:=Ni.mp h.1;rw [this];rfl
 | c::cs,[],h=>by have:=h.1;simp at this
 | c::cs,y::ys,h=>by
  obtain⟨a,rfl,ts,h1,h2⟩:=h.2 0 c y rfl rfl;have ih:=uI (H:=H) (f:=f) (cs:=cs) (ys:=ys) ⟨by have:=h.1;simpa using this,λ i z x hz hx=>h.2 (i+1) z x (by simpa using hz) (by simpa using hx)⟩
  have e1:eS H (eS H (eS H f)) (.ref a)=some (PyData.list ((c.map λ z=>[z.1,z.2]).map λ z=>PyData.tuple (z.map PyData.int))):=by
   rw [gf,h1]
   show zX (eS H (eS H f)) (.lst ts)=_
   rw [gd,pG (Bi h2)];rfl
  rw [LG,e1,da,ih];rfl
theorem Ak{H:Hp}{f:V->Option PyData}{cs:List Bx}{ys:List V}(h:Al (BxA H) cs ys)(hn:0 < cs.length):∃ d ds,aR (ys.map (eS H (eS H (eS H f))))=some (d::ds):=by
 rw [uI h]
 cases cs with
 | nil=>simp at hn
 | cons c cs=>exact⟨_,_,rfl⟩
theorem dq.re{H:Hp}{cA pA cB:Addr}(hb:H cB=none):∀ {st:List Bx}{cl:List V},dq H cA pA st cl->dq H cB cB st cl
 | [],_,h=>h
 | _::_,_,⟨cl0,y,h1,⟨a,h2,_,_,h5⟩,h3⟩=>by
  have n:a ≠ cB:=λ e=>by obtain⟨_,h,_⟩:=h5;rw [e,hb] at h;cases h
  exact⟨cl0,y,h1,⟨a,h2,n,n,h5⟩,dq.re hb h3⟩
theorem dq.cat{H0 H:Hp}{cA cB:Addr}{more st:List Bx}{cl ys:List V}(hs:dq H cA cA st cl)(hm:AK H0 H more ys)(hmm:more=[]\/∃ a b,more=[a,b])(hb:H cB=none):dq H cB cB (more++st) (cl++ys):=by
 have hs':=hs.re hb
 rcases hmm with rfl|⟨a,b,rfl⟩
 ·have:ys=[]:=Ni.mp hm.1;rw [this,MG];exact hs'
 ·have hl:ys.length=2:=hm.1
  obtain⟨y1,y2,rfl⟩:∃ y1 y2,ys=[y1,y2]:=by
   match ys,hl with
   | [y1,y2],_=>exact⟨y1,y2,rfl⟩
  obtain⟨a1,h1,_,p1⟩:=hm.2 0 b y1 rfl rfl;obtain⟨a2,h2,_,p2⟩:=hm.2 1 a y2 rfl rfl;have n1:a1 ≠ cB:=λ e=>by obtain⟨_,h,_⟩:=p1;rw [e,hb] at h;cases h
  have n2:a2 ≠ cB:=λ e=>by obtain⟨_,h,_⟩:=p2;rw [e,hb] at h;cases h
  exact⟨cl++[y1],y2,by rw [MB];rfl,⟨a2,h2,n2,n2,p2⟩,cl,y1,rfl,⟨a1,h1,n1,n1,p1⟩,hs'⟩
theorem AK.al{H0 H:Hp}{more:List Bx}{ys:List V}(h:AK H0 H more ys):Al (BxA H) more.reverse ys:=⟨h.1,λ i z y hz hy=>(let ⟨a,h1,_,h3⟩:=h.2 i z y hz hy;⟨a,h1,h3⟩)⟩
theorem dZ.more{zs:List Tm3}{g:Int}{c:Bx}{s:List V}{more:List Bx}(h:dZ zs g c s more):more=[]\/(cV zs c g=false/\∃ a b,more=[a,b]):=by
 rcases h with ⟨_,_,h⟩|⟨_,_,h⟩|⟨_,_,_,_,_,h⟩|⟨_,_,_,_,_,_,e,h⟩
 ·exact .inl h
 ·exact .inl h
 ·exact .inl h
 ·exact .inr ⟨e,_,_,h⟩
abbrev mN  (p:Addr) (g:Int) (x:Addr) (H:Hp) (Q:VK) (E:XK):Prop:=∃ (zs:List Tm3) (pp:List (List V)),gz H p zs/\cW zs/\jT H x pp/\pp.length<=60000/\Rep zs g [zs.map λ z=>z.2] pp []/\∀ (r:Addr) (H':Hp),Ext H H'->H' r=some (.lst [])->Q (.ref r) H'
def nM  : Sp:=λ vs H Q E=>∃ (p:Addr) (g:Int) (x:Addr),vs=[.ref p,.int g,.ref x,.bl true]/\(mN  p g x H Q E)
theorem xj  (p:Addr) (g:Int) (x:Addr) (H:Hp) (Q:VK) (E:XK):nM  [.ref p,.int g,.ref x,.bl true] H Q E=(mN  p g x H Q E):=ni (f:=λ (p:Addr) (g:Int) (x:Addr)=>[.ref p,.int g,.ref x,.bl true]) (λ _ _ _ _ _ _ h=>by cases h;exact⟨rfl,rfl,rfl⟩) p g x
theorem wH  {vs:List V}{H:Hp}{Q:VK}{E:XK}(h:nM  vs H Q E):vs.length=4:=nj h λ _ _ _=>rfl
theorem mW(T:Tx K mg t):bC P w K mg base CX0 4 t.a__law_left t.d__law_left ["_law_terms_here", "_law_goal", "_law_paper", "_law_bare"] nM:=by
 have G__law_behind:=%[ja|46];have G__law_ended:=%[kZ|46];refine T.F__law_left.ok bX (λ vs H Q E h=>wH h) (λ c A o s H vs Q E hr h=>?_)
 ·obtain⟨p,g,x,rfl,zs,pp,⟨ts,hp,al⟩,ht,⟨ys,hx,pl⟩,hpl,rep,k⟩:=h;refine⟨_,%[%[4,bX,%[%[%[(["_law_times", "_law_low", "_law_high", "_law_terms_here", "_law_goal", "_law_paper", "_law_bare", "_law_cases", "_law_step", "_law_case", "_law_more"]),(3),(aP (aa dE) ["_law_terms_here", "_law_goal", "_law_paper", "_law_bare", "_law_cases", "_law_step", "_law_case", "_law_more"] rfl rfl nofun),rfl,%[%[0|0]|24],(λ C s₀ H₀ ex pn=>(%[(3),rfl,%[%[(0),_,(show List.Nodup (["_law_times", "_law_low", "_law_high", "_law_terms_here", "_law_goal", "_law_paper", "_law_bare", "_law_cases", "_law_step", "_law_case", "_law_more"]:List Str) from by decide +kernel),rfl,(Or.inl rfl),%[0|7]|18],%[%[(1),_,(show List.Nodup (["_law_times", "_law_low", "_law_high", "_law_terms_here", "_law_goal", "_law_paper", "_law_bare", "_law_cases", "_law_step", "_law_case", "_law_more"]:List Str) from by decide +kernel),rfl,(Or.inl rfl),%[0|7]|18],%[%[(2),_,(show List.Nodup (["_law_times", "_law_low", "_law_high", "_law_terms_here", "_law_goal", "_law_paper", "_law_bare", "_law_cases", "_law_step", "_law_case", "_law_more"]:List Str) from by decide +kernel),rfl,(Or.inl rfl),%[0|7]|18],(@aB _),∅|15],∅|15],∅|15],∅,∅|22].mono λ _ _ _ _ h=>aZ h)),(λ C s₀ H₀ ex pn=>(@aY _)),(λ C s₀ H₀ ex pn=>%[%[%[1|0],%[%[2|0]|1]|1]|17]),(by intros;rfl)|26]|1]|23]|4],%[%[Lv,rfl,%[%[2|0]|24],%[5,bX|5],%[%[%[(cg hr.units),%[4|0],%[(@cc _)|23],(ai _)|14],%[%[(@dM _ _ _)|13]|11],(@ar _)|16],%[%[6,bX,%[Li,Ny,Nx,uj,%[4|0],∅,∅|43]|4],%[%[7,bX,%[_law_behind,%[%[0|0],%[%[1|0],%[%[6|0],%[%[5|0]|1]|1]|1]|1]|3]|4],%[%[(PW.pt %[%[uh,%[7|0],(@dM _ _ _),(ai _)|14],%[(PW.pt %[%[%[3|0],(by intros;rfl)|19],%[%[(cH hr.units),%[7|0],%[(@cc _)|23],(ai _)|14],(@dz _ _ _ _ %[%[_law_ended,%[%[0|0],%[%[1|0],%[%[6|0]|1]|1]|1]|3],(by intros;rfl)|19])|36]|36])|29]|21]),%[%[(@dM _ _ _)|13]|11],(@ar _)|16],%[%[4,bX,%[fM,%[4|0],%[7|0]|12]|4]|11]|10]|10]|10]|10],(by intros;rfl)|30],%[%[%[4|0]|13]|11]|10]|10],?_⟩;rw [show start ["_law_terms_here", "_law_goal", "_law_paper", "_law_bare", "_law_cases", "_law_step", "_law_case", "_law_more"] [.ref p,.int g,.ref x,.bl true]=[some (.ref p),some (.int g),some (.ref x),some (.bl true),none,none,none,none] from rfl];clear G__law_behind G__law_ended;have h17:=ht.len;have hyl:ys.length=pp.length:=pl.1;have wk:=jQ (K:=K) (R:=trP) (λ _ _ _ _ h e=>h.ext e) hp al;exists k;exists pl;exists rep;exists hyl;have htr:gz H p zs:=⟨ts,hp,al⟩;ac_rfl;refine dg zs (λ _=>true) trP (λ D z y H'=>axP z.2 y H') wk.1 wk.2 (λ D z y H1 H2 h e=>axP.ext (a:=z.2) h e) (λ D z y H1 xs o h hD=>axP.upd (z:=z.2) h hD) (az %[0|8]) ?_ ?_
  ·intro D z y H' N1 N0 hz hD e _ ⟨q,hy,hq⟩ k1 _;subst hy;have k1':=k1 rfl;clear k1 k wk rep pl hx hp htr;simp! only [↓uS,↓aU];intro t1 H6 ht1 e6 h6;exact k1' _ H6 e6 ⟨t1,rfl,h6⟩
  intro D zs2 H2 hD e2 h2 al2;rw [lE] at al2;have pr2:du H2 D (zs.map λ z=>z.2):=⟨zs2,h2,ke al2⟩;clear al2 wk hD;ac_rfl;intro c3 H3 hc3 e3 h3;have hc30:H c3=none:=e2.free hc3
  have st3:dq H3 c3 c3 [zs.map λ z=>z.2] [.ref D]:=by
   have n:D ≠ c3:=λ e=>by rw [e,hc3] at h2;cases h2
   exact⟨[],.ref D,rfl,⟨D,rfl,n,n,aC pr2 e3⟩,rfl⟩
  have e03:=e2.trans e3;have hx3:=e03.at hx;clear hc3 pr2 h2 e2 e3;ac_rfl;refine ed (xs:=ys) (λ i σ H'=>∃ (st:List Bx) (ca:Addr) (cl:List V) (v5 v6 v7:Option V),σ=[some (.ref p),some (.int g),some (.ref x),some (.bl true),some (.ref ca),v5,v6,v7]/\Ext H H'/\H ca=none/\H' ca=some (.lst cl)/\dq H' ca ca st cl/\Rep zs g st (pp.drop i) []) ⟨_,c3,_,none,none,none,rfl,e03,hc30,h3,st3,rep ()⟩ (λ i σ H' _ ⟨_,_,_,_,_,_,_,e,_⟩=>e.at hx) ?_ ?_
  ·clear st3 h3 hx3 e03 hc30;rintro i y _ H5 hi ⟨st,ca,cl,v5,v6,v7,rfl,e5,hca,h5,stk,rp⟩;have hip:i < pp.length:=by have:=(K0.mp hi).1;have:=hyl ();omega
   obtain⟨sr,rfl,hsr⟩:=(pl ()).2 i pp[i] y (KU hip) hi;have hln:=Rep.len rp;rw [M1] at hln;rw [Nd hip] at rp
   cases st with
   | nil=>exact rp.elim
   | cons c st=>
    obtain⟨more,hst,hc,rp'⟩:=rp;have hmm:=hst.more;obtain⟨cl0,y,rfl,hcy,stk'⟩:=stk;obtain⟨a,rfl,nac,_,pa⟩:=hcy;have hcl0:=stk'.len;have hsr5:=e5.at hsr;obtain⟨cl,hcl⟩:∃ cl,cl0++[V.ref a]=cl:=⟨_,rfl⟩;have stkc:dq H5 ca ca (c::st) cl:=⟨cl0,.ref a,hcl.symm,⟨a,rfl,nac,nac,pa⟩,stk'⟩;have hlen:0 < (cl.length:Int):=by rw [←hcl,K4,K9];omega
    have hlast:cl[cl.length - 1]? = some (.ref a):=by rw [←hcl,K4,K9,MP,Lk (K3 _),M5];rfl
    have hdrop:cl.dropLast=cl0:=by rw [←hcl,NG]
    rw [hcl] at h5;exists hst;exists rp';exists hmm;exists stk';exists hcl;exists hcl0;clear hi;simp! only [↓aE];intro n6 H6 hn6 e6 h6;have stk6:=stkc.ext e6;obtain⟨dd,ds,hdd⟩:=Ak (f:=eS H6 (eS H6 noD)) stk6.al (by rw [LA,Lr];omega);have h5_6:=e6.at h5;have hsr6:=e6.at hsr5;have pa6:=aC pa e6;have stk'6:=(stk' ()).ext e6;have e06:=e5.trans e6;clear hn6 stkc stk6 h5 hsr5 stk' pa e6;have h7c:upd H6 ca (.lst cl0) ca=some (.lst cl0):=ah;have cs7:=CsV.upd (o:=.lst cl0) (c:=c) (y:=.ref a) ⟨a,rfl,nac,nac,pa6⟩ h5_6 (.inl rfl);have st7:=dq.upd (o:=.lst cl0) h5_6 (.inl rfl) stk'6;have e07:Ext H (upd H6 ca (.lst cl0)):=e06.put hca;have hsr7:upd H6 ca (.lst cl0) sr=some (.tup pp[i]):=by rw [ae (λ e=>by rw [e,h5_6] at hsr6;cases hsr6)];exact hsr6
    exists st7;exists stk'6;ac_rfl;generalize upd H6 ca (.lst cl0)=H7 at *;clear hdd h5_6 hsr6 pa6 stk'6 e06 h6 hlen hlast hdrop hcl;obtain⟨_,ha',_,_,pa7⟩:=cs7;cases ha';rw [zP];refine⟨zs,c,pp[i],more,bL htr e07,pa7,ht,hc,hsr7,hst (),λ r8 bs H8 e8 h8 beh=>?_⟩;have e08:=e07.trans e8;have h8c:=e8.at h7c;have st8:=λ (_:Unit)=>(st7 ()).ext e8;have pa8:=aC pa7 e8;have hcl1:cl0.length<=60000:=by have:=hcl0 ();rw [Lr] at hln;omega
    clear hst h7c st7 pa7 hsr7
    rcases hmm () with rfl|⟨hee,b1,b2,rfl⟩
    ·have hbs:bs=[]:=Ni.mp beh.1;subst hbs;exists beh;clear hmm;ac_rfl;intro n9 H9 _ e9 h9;have h8_9:=e9.at h8;have h8c9:=e9.at h8c;have st9:=λ (_:Unit)=>(st8 ()).ext e9;have e09:=e08.trans e9;clear h8 h8c st8;ac_rfl;refine⟨j8 %[0|8],?_⟩;intro c12 H12 hc12 e12 h12;have hcn:H c12=none:=e09.free hc12;have stN:=(dq.cat (st9 ()) (show AK H7 H9 [] [] from Al.nil) (.inl rfl) hc12).ext e12;rw [MG] at stN;have eN:=e09.trans e12;exists stN;clear hc12 e12;ac_rfl;exact⟨_,c12,_,_,_,_,rfl,eN,hcn,h12,stN (),rp' ()⟩
    ·have hbl:bs.length=2:=beh.1;exists beh;clear hmm;ac_rfl;intro n9 H9 _ e9 h9;have h8_9:=e9.at h8;have h8c9:=e9.at h8c;have st9:=λ (_:Unit)=>(st8 ()).ext e9;have e09:=e08.trans e9;have beh9:AK H7 H9 [b1,b2] bs:=(beh ()).imp λ _ _ ⟨a,h1,h2,h3⟩=>⟨a,h1,h2,aC h3 e9⟩;obtain⟨dd,ds,hdd⟩:=Ak (f:=eS H9 (eS H9 noD)) beh9.al (show 0 < [b2,b1].length by simp);exists beh9;clear h8 h8c st8 beh;ac_rfl;rw [zO];refine⟨zs,c,bL htr e09,aC pa8 e9,ht,hc,λ H10 e10=>?_⟩;rw [hee];have h8_10:=e10.at h8_9;have h8c10:=e10.at h8c9;have st10:=λ (_:Unit)=>(st9 ()).ext e10;have e010:=e09.trans e10;have beh10:AK H7 H10 [b1,b2] bs:=(beh9 ()).imp λ _ _ ⟨a,h1,h2,h3⟩=>⟨a,h1,h2,aC h3 e10⟩;exists beh10;clear hdd beh9 st9 h8_9 h8c9 h9;ac_rfl;refine⟨j8 %[0|8],?_⟩;intro c12 H12 hc12 e12 h12;have hcn:H c12=none:=e010.free hc12;have stN:=(dq.cat (st10 ()) (beh10 ()) (.inr ⟨_,_,rfl⟩) hc12).ext e12;have eN:=e010.trans e12;exists stN;clear hc12 e12;ac_rfl;exact⟨_,c12,_,_,_,_,rfl,eN,hcn,h12,stN (),rp' ()⟩
  ·rintro _ H5 ⟨st,ca,cl,v5,v6,v7,rfl,e5,hca,h5,stk,rp⟩;rw [hyl (),N4] at rp
   have hs0:st=[]:=by cases st<;>exact rp
   subst hs0;have hcl:cl=[]:=stk;subst hcl;have k':=k () ca H5 e5 h5;clear k rp stk;ac_rfl
abbrev jK  (x:Addr) (p:Addr) (g:Int) (m:Int) (H:Hp) (Q:VK) (E:XK):Prop:=∃ (zs:List Tm3) (pp:List (List V)) (a1:Addr),H x=some (.tup [.str "apart",.ref a1])/\jT H a1 pp/\gz H p zs/\cW zs/\(pp.length:Int)<=m/\pp.length<=60000/\Rep zs g [zs.map λ z=>z.2] pp []/\∀ H',Ext H H'->Q (.bl true) H'
def kr  : Sp:=λ vs H Q E=>∃ (x:Addr) (p:Addr) (g:Int) (m:Int),vs=[.ref x,.ref p,.int g,.int m]/\(jK  x p g m H Q E)
theorem sk  (x:Addr) (p:Addr) (g:Int) (m:Int) (H:Hp) (Q:VK) (E:XK):kr  [.ref x,.ref p,.int g,.int m] H Q E=(jK  x p g m H Q E):=zT (f:=λ (x:Addr) (p:Addr) (g:Int) (m:Int)=>[.ref x,.ref p,.int g,.int m]) (λ _ _ _ _ _ _ _ _ h=>by cases h;exact⟨rfl,rfl,rfl,rfl⟩) x p g m
theorem rM  {vs:List V}{H:Hp}{Q:VK}{E:XK}(h:kr  vs H Q E):vs.length=4:=zU h λ _ _ _ _=>rfl
theorem k7(T:Tx K mg t):bC P w K mg base CX0 5 t.a__law_apart t.d__law_apart ["_law_found", "_law_terms_here", "_law_goal", "_law_most"] kr:=by
 have G__law_left:=%[mW|46];refine T.F__law_apart.ok ng (λ vs H Q E h=>rM h) (λ c A o s H vs Q E hr h=>?_)
 ·obtain⟨x,p,g,m,rfl,zs,pp,a1,hx,⟨ys,h1,pl⟩,htr,ht,hm,h4,rep,k⟩:=h;refine⟨_,%[%[(PW.pt %[%[%[%[isinstance,aK,%[%[0|0],%[%[(.ty "tuple"),(.type "tuple"),_,∅,T.z_tuple,nofun,rfl,⋯,⋯|32]|1]|1]|6],(by intros;rfl)|19]|20],%[%[(cH hr.units),%[len,aw,%[%[0|0]|1]|6],%[0|2],(ai _)|14],%[%[(cH hr.units),%[ay,%[0|0],%[0|2],(λ _ _=>rfl)|9],(@bH _ _ _ _),(ai _)|14],%[%[%[%[isinstance,aK,%[%[ay,%[0|0],%[0|2],(λ _ _=>rfl)|9],%[%[(.ty "list"),(.type "list"),_,∅,T.z_list,nofun,rfl,⋯,⋯|32]|1]|1]|6],(by intros;rfl)|19]|20]|29]|21]|21]|21]),%[%[(@cC _ _ _ _)|13]|11],(@ar _)|16],%[%[%[%[i7,%[len,aw,%[%[ay,%[0|0],%[0|2],(λ _ _=>rfl)|9]|1]|6],%[3|0],(ai _)|28],%[%[(cg hr.units),%[_law_left,%[%[1|0],%[%[2|0],%[%[ay,%[0|0],%[0|2],(λ _ _=>rfl)|9],%[(@cC _ _ _ _)|1]|1]|1]|1]|3],%[(@cc _)|23],(ai _)|28]|33]|31]|13]|11]|10],?_⟩;rw [show start ["_law_found", "_law_terms_here", "_law_goal", "_law_most"] [.ref x,.ref p,.int g,.int m]=[some (.ref x),some (.ref p),some (.int g),some (.int m)] from rfl];clear G__law_left;have hyl:ys.length=pp.length:=pl.1;have hml:(ys.length:Int)<=m:=by omega
  have sq9:(Str.ofString "apart" == Str.ofString "apart")=true:=by decide +kernel
  have pap:jT H a1 pp:=⟨ys,h1,pl⟩;exists k;exists rep;exists pap;exists hyl;clear pl;ac_rfl;rw [xj];refine⟨zs,pp,htr,ht,pap (),h4,rep (),λ r2 H2 e2 h2=>?_⟩;clear hx h1;ac_rfl;intro r3 H3 _ e3 h3;have h2_3:=e3.at h2;have k':=k () H3 (e2.trans e3);clear k h2;ac_rfl
theorem yX{xs:List V}{n:Int}{H:Hp}{Q:VK}(h0:1<=n)(h1:n<=xs.length)(q:gy (.tup (xs.drop n.toNat)) H Q):HE (some n) none H Q xs:=by
 obtain⟨k,rfl⟩:=LO (show 0<=n by omega);refine⟨λ e=>?_,?_⟩
 ·have:=e.1;rw [HT.sIx_nat] at this;omega
 ·rw [qf xs _ (show (0:Int)<=(k:Int) by omega)];exact q
abbrev jL  (x:Addr) (wd:Str) (m:Int) (H:Hp) (Q:VK) (E:XK):Prop:=∃ (z:Str) (ns:List Int),H x=some (.tup (.str z::ns.map V.int))/\ns.length<=5/\∀ H',Ext H H'->Q (.bl (decide ((ns.length:Int)=m) && (z == wd))) H'
def ku  : Sp:=λ vs H Q E=>∃ (x:Addr) (wd:Str) (m:Int),vs=[.ref x,.str wd,.int m]/\(jL  x wd m H Q E)
theorem aV  (x:Addr) (wd:Str) (m:Int) (H:Hp) (Q:VK) (E:XK):ku  [.ref x,.str wd,.int m] H Q E=(jL  x wd m H Q E):=ni (f:=λ (x:Addr) (wd:Str) (m:Int)=>[.ref x,.str wd,.int m]) (λ _ _ _ _ _ _ h=>by cases h;exact⟨rfl,rfl,rfl⟩) x wd m
theorem rN  {vs:List V}{H:Hp}{Q:VK}{E:XK}(h:ku  vs H Q E):vs.length=3:=nj h λ _ _ _=>rfl
theorem jt(T:Tx K mg t):bC P w K mg base CX0 2 t.a_is_step t.d_is_step ["thing", "word", "many"] ku:=by
 have G_is_whole:=%[cx|46];refine T.F_is_step.ok xn (λ vs H Q E h=>rN h) (λ c A o s H vs Q E hr h=>?_)
 ·obtain⟨x,wd,m,rfl,z,ns,hx,hn,k⟩:=h;refine⟨_,%[%[(PW.pt %[%[%[%[isinstance,aK,%[%[0|0],%[%[(.ty "tuple"),(.type "tuple"),_,∅,T.z_tuple,nofun,rfl,⋯,⋯|32]|1]|1]|6],(by intros;rfl)|19]|20],%[%[(cH hr.units),%[len,aw,%[%[0|0]|1]|6],%[aH,%[2|0],%[0|2]|12],(ai _)|14],%[%[%[%[isinstance,aK,%[%[ay,%[0|0],%[0|2],(λ _ _=>rfl)|9],%[%[(.ty "str"),(.type "str"),_,∅,T.z_str,nofun,rfl,⋯,⋯|32]|1]|1]|6],(by intros;rfl)|19]|20]|29]|21]|21]),%[%[(@cC _ _ _ _)|13]|11],(@ar _)|16],%[%[%[%[(cg hr.units),%[ay,%[0|0],%[0|2],(λ _ _=>rfl)|9],%[1|0],(ai _)|28],%[%[all,(iy rfl),%[%[(["number", "thing", "word", "many"]),(1),(aP (aa fz) ["thing", "word", "many"] rfl rfl nofun),rfl,%[%[Ig,%[0|0],(@eW _ _ _ %[0|2]),(@eX _)|40]|24],(λ C s₀ H₀ ex pn=>%[(0),_,(show List.Nodup (["number", "thing", "word", "many"]:List Str) from by decide +kernel),rfl,(Or.inl rfl),%[0|7]|18]),(λ C s₀ H₀ ex pn=>(@aY _)),(λ C s₀ H₀ ex pn=>%[is_whole,%[%[0|0]|1]|3]),(by intros;rfl)|26]|1]|6]|33]|31]|13]|11]|10],?_⟩;rw [show start ["thing", "word", "many"] [.ref x,.str wd,.int m]=[some (.ref x),some (.str wd),some (.int m)] from rfl];clear G_is_whole;exists k;have hcast:((ns.length+1:Nat):Int)=(ns.length:Int)+1:=by omega
  by_cases hm:(ns.length:Int)=m
  ·have hm2:(ns.length:Int)+1=m+1:=by omega
   by_cases hz:z=wd
   ·subst hz;ac_rfl;refine yX ⋯ (by rw [Lr];omega) ?_;intro t1 H1 _ e1 h1;have h1':H1 t1=some (.tup (ns.map V.int)):=h1;have wk:=EB (K:=K) h1';clear h1 hx;ac_rfl;refine bM (ns.map V.int) (λ _=>true) (λ _=>.bl true) (λ z y H'=>y=z/\H' t1=some (.tup (ns.map V.int))) wk.1 wk.2 (az (by rw [K2];omega)) ?_ ?_
    ·intro D v y H' N1 N0 hv hD e ⟨hy,_⟩ k1 _;subst hy;obtain⟨n,_,rfl⟩:=Lo.mp hv;have k1':N1 (.bl true) H':=k1 rfl H' (Ext.refl _);clear k1 hv wk;simp! only [↓bW,↓aU,↓bR]
    ·intro D H2 hD e2 h2;have k':=k () H2 (e1.trans e2);rw [Ll hm,NZ,Bool.and_true] at k';have hbl:(((ns.map V.int).filter λ _=>true).map λ _=>V.bl true)=(ns.map λ _=>true).map V.bl:=by rw [lE,Mi,Mi];rfl
     have hall:((ns.map λ _=>true).all id)=true:=by rw [List.all_map];exact M0.mpr λ _ _=>rfl
     rw [hbl] at h2;clear k wk hbl;ac_rfl
   ·have k':=k () H (Ext.refl _);rw [beq_false_of_ne hz,NI] at k';clear k;ac_rfl
  ·have k':=k () H (Ext.refl _);have hm2:¬ (ns.length:Int)+1=m+1:=by omega
   rw [Lj hm,Bool.false_and] at k';clear k;ac_rfl
abbrev jO  (p:Addr) (q:Addr) (d:Int) (H:Hp) (Q:VK) (E:XK):Prop:=∃ (zs:List Tm3) (cs:List (Int × Int)),gz H p zs/\du H q cs/\cW zs/\cU zs cs/\2<=d/\(∀ n∈bZ zs cs,d ∣ n)/\∀ H',Ext H H'->Q (.bl true) H'
def kC  : Sp:=λ vs H Q E=>∃ (p:Addr) (q:Addr) (d:Int),vs=[.ref p,.ref q,.int d]/\(jO  p q d H Q E)
theorem su  (p:Addr) (q:Addr) (d:Int) (H:Hp) (Q:VK) (E:XK):kC  [.ref p,.ref q,.int d] H Q E=(jO  p q d H Q E):=ni (f:=λ (p:Addr) (q:Addr) (d:Int)=>[.ref p,.ref q,.int d]) (λ _ _ _ _ _ _ h=>by cases h;exact⟨rfl,rfl,rfl⟩) p q d
theorem rQ  {vs:List V}{H:Hp}{Q:VK}{E:XK}(h:kC  vs H Q E):vs.length=3:=nj h λ _ _ _=>rfl
theorem i9(T:Tx K mg t):bC P w K mg base CX0 1 t.a_divides_all t.d_divides_all ["terms", "case", "number"] kC:=by
 refine T.F_divides_all.ok lC (λ vs H Q E h=>rQ h) (λ c A o s H vs Q E hr h=>?_)
 ·obtain⟨p,q,d,rfl,zs,cs,⟨ys,hp,al⟩,⟨xs,hq,bl⟩,ht,hc,hd,hdv,k⟩:=h;refine⟨_,%[%[%[all,(iy rfl),%[%[(["term", "bounds", "terms", "case", "number"]),(2),(aP (aa cp) ["terms", "case", "number"] rfl rfl nofun),rfl,%[∅,T.z_zip,%[%[0|0],%[%[1|0]|1]|1],∅,∅|39],(λ C s₀ H₀ ex pn=>(%[(2),rfl,%[%[(0),_,(show List.Nodup (["term", "bounds", "terms", "case", "number"]:List Str) from by decide +kernel),rfl,(Or.inl rfl),%[0|7]|18],%[%[(1),_,(show List.Nodup (["term", "bounds", "terms", "case", "number"]:List Str) from by decide +kernel),rfl,(Or.inl rfl),%[0|7]|18],(@aB _),∅|15],∅|15],∅,∅|22].mono λ _ _ _ _ h=>aZ h)),(λ C s₀ H₀ ex pn=>(@nS _ _ _ %[cD,%[ay,%[1|0],%[0|2],(λ _ _=>rfl)|9],%[ay,%[1|0],%[0|2],(λ _ _=>rfl)|9],(ai _)|14])),(λ C s₀ H₀ ex pn=>%[(cg hr.units),%[dN,%[ay,%[0|0],%[0|2],(λ _ _=>rfl)|9],%[4|0]|12],%[0|2],(ai _)|28]),(by intros;rfl)|26]|1]|6]|13]|11],?_⟩;rw [show start ["terms", "case", "number"] [.ref p,.ref q,.int d]=[some (.ref p),some (.ref q),some (.int d)] from rfl];have hd0:0 < d:=by omega
  have hdm:∀ z∈zs.zip cs,z.2.1 < z.2.2->z.1.1 % d=0:=λ z hz hlt=>Nl (hdv _ (by
   unfold bZ;exact List.mem_map.mpr ⟨z,List.mem_filter.mpr ⟨hz,decide_eq_true hlt⟩,rfl⟩))
  exists k;exists hdm;clear hdv;ac_rfl;have wk:=jU (R1:=trP) (R2:=axP) (λ _ _ _ _ h e=>h.ext e) (λ _ _ _ _ h e=>h.ext e) hp hq al bl;refine bM (zs.zip cs) (λ z=>decide (z.2.1 < z.2.2)) (λ _=>.bl true) (AG trP axP) wk.1 wk.2 (az (by have:=ht.len;rw [Mc];omega)) ?_ ?_
  ·intro D z y H' N1 N0 hz hD e ⟨u,q1,q2,hu,hu2,⟨r1,h1,h1'⟩,⟨r2,h2,h2'⟩⟩ k1 k0;subst hu h1 h2
   by_cases hlt:z.2.1 < z.2.2
   ·have k1':N1 (.bl true) H':=k1 (Ll hlt) H' (Ext.refl _);have hz0:=hdm () z hz hlt;clear k1 k0 k hdm;simp! only [↓b7,↓aU]
   ·have k0':N0 H':=k0 (Lj hlt) H' (Ext.refl _);clear k1 k0 k hdm;simp! only [↓b7,↓aU]
  ·intro D H' hD e hD';have hbl:∀ l:List (Tm3 × (Int × Int)),(l.map λ _=>V.bl true)=(l.map λ _=>true).map V.bl:=λ l=>by rw [Mi];rfl
   rw [hbl] at hD';have hall:∀ l:List (Tm3 × (Int × Int)),((l.map λ _=>true).all id)=true:=λ l=>by rw [List.all_map];exact M0.mpr λ _ _=>rfl
   have hall':=hall ((zs.zip cs).filter λ z=>decide (z.2.1 < z.2.2));generalize ((zs.zip cs).filter λ z=>decide (z.2.1 < z.2.2)).map (λ _=>true)=bs at *;have k':=k () H' e;clear k wk hbl hall hdm;ac_rfl
abbrev jN  (p:Addr) (g:Int) (q:Addr) (x:Addr) (H:Hp) (Q:VK) (E:XK):Prop:=∃ (zs:List Tm3) (cs:List (Int × Int)) (ss:List V),gz H p zs/\du H q cs/\cW zs/\cU zs cs/\H x=some (.tup ss)/\dZ zs g cs ss []/\∀ H',Ext H H'->Q (.bl true) H'
def kz  : Sp:=λ vs H Q E=>∃ (p:Addr) (g:Int) (q:Addr) (x:Addr),vs=[.ref p,.int g,.ref q,.ref x]/\(jN  p g q x H Q E)
theorem gh  (p:Addr) (g:Int) (q:Addr) (x:Addr) (H:Hp) (Q:VK) (E:XK):kz  [.ref p,.int g,.ref q,.ref x] H Q E=(jN  p g q x H Q E):=zT (f:=λ (p:Addr) (g:Int) (q:Addr) (x:Addr)=>[.ref p,.int g,.ref q,.ref x]) (λ _ _ _ _ _ _ _ _ h=>by cases h;exact⟨rfl,rfl,rfl,rfl⟩) p g q x
theorem rP  {vs:List V}{H:Hp}{Q:VK}{E:XK}(h:kz  vs H Q E):vs.length=4:=zU h λ _ _ _ _=>rfl
theorem qW(T:Tx K mg t):bC P w K mg base CX0 3 t.a_ends_by t.d_ends_by ["terms", "goal", "case", "step"] kz:=by
 have G_least_sum:=%[cP|46];have G_greatest_sum:=%[bU|46];have G_is_step:=%[jt|46];have G_divides_all:=%[i9|46];refine T.F_ends_by.ok mC (λ vs H Q E h=>rP h) (λ c A o s H vs Q E hr h=>?_)
 ·obtain⟨p,g,q,x,rfl,zs,cs,ss,hp,hq,ht,hc,hx,hs,k⟩:=h;refine⟨_,%[%[4,mC,%[least_sum,%[%[0|0],%[%[2|0]|1]|1]|3]|4],%[%[%[%[is_step,%[%[3|0],%[(@bH _ _ _ _),%[%[0|2]|1]|1]|1]|3],(by intros;rfl)|19],%[%[%[dR,%[4|0],%[1|0],(ai _)|28]|13]|11],(@ar _)|16],%[%[%[%[is_step,%[%[3|0],%[(@bH _ _ _ _),%[%[0|2]|1]|1]|1]|3],(by intros;rfl)|19],%[%[%[cD,%[greatest_sum,%[%[0|0],%[%[2|0]|1]|1]|3],%[1|0],(ai _)|28]|13]|11],(@ar _)|16],%[%[(PW.pt %[%[%[is_step,%[%[3|0],%[(@bH _ _ _ _),%[%[0|2]|1]|1]|1]|3],(by intros;rfl)|19],(@dz _ _ _ _ %[AV,%[ay,%[3|0],%[0|2],(λ _ _=>rfl)|9],%[0|2],(ai _)|14])|36]),%[%[%[%[divides_all,%[%[0|0],%[%[2|0],%[%[ay,%[3|0],%[0|2],(λ _ _=>rfl)|9]|1]|1]|1]|3],%[%[(cH hr.units),%[dN,%[aF,%[1|0],%[4|0]|12],%[ay,%[3|0],%[0|2],(λ _ _=>rfl)|9]|12],%[0|2],(ai _)|28]|33]|31]|13]|11],(@ar _)|16],%[%[(@cC _ _ _ _)|13]|11]|10]|10]|10]|10],?_⟩;rw [show start ["terms", "goal", "case", "step", "least"] [.ref p,.int g,.ref q,.ref x]=[some (.ref p),some (.int g),some (.ref q),some (.ref x),none] from rfl];clear G_least_sum G_greatest_sum G_is_step G_divides_all;exists k;have q1:((Str.ofString "low":Str) == Str.ofString "low")=true:=by decide +kernel
  have q2:((Str.ofString "high":Str) == Str.ofString "low")=false:=by decide +kernel
  have q3:((Str.ofString "high":Str) == Str.ofString "high")=true:=by decide +kernel
  have q4:((Str.ofString "rest":Str) == Str.ofString "rest")=true:=by decide +kernel
  rcases hs with ⟨rfl,hs,_⟩|⟨rfl,hs,_⟩|⟨d,rfl,hd,hdv,hs,_⟩|⟨m,a,rfl,hm,ha1,ha2,hs,hm⟩
  ·ac_rfl;rw [eK];refine⟨zs,cs,hp,hq,ht,hc,λ H1 e1=>?_⟩;have hx1:=e1.at hx;ac_rfl;rw [aV];refine⟨"low",[],hx1,by decide,λ H2 e2=>?_⟩;rw [show (decide ((([]:List Int).length:Int)=0) && (("low":Str) == Str.ofString "low"))=true by rw [q1];rfl];have k':=k () H2 (e1.trans e2);clear k hx hx1;ac_rfl
  ·ac_rfl;rw [eK];refine⟨zs,cs,hp,hq,ht,hc,λ H1 e1=>?_⟩;have hx1:=e1.at hx;ac_rfl;rw [aV];refine⟨"high",[],hx1,by decide,λ H2 e2=>?_⟩;rw [show (decide ((([]:List Int).length:Int)=0) && (("high":Str) == Str.ofString "low"))=false by rw [q2];rfl];have hx2:=e2.at hx1;clear hx hx1;ac_rfl;rw [aV];refine⟨"high",[],hx2,by decide,λ H3 e3=>?_⟩;rw [show (decide ((([]:List Int).length:Int)=0) && (("high":Str) == Str.ofString "high"))=true by rw [q3];rfl];have e03:=e1.trans (e2.trans e3);clear hx2;ac_rfl;rw [gQ];refine⟨zs,cs,bL hp e03,aC hq e03,ht,hc,λ H4 e4=>?_⟩;have k':=k () H4 (e03.trans e4);clear k;ac_rfl
  ·exists hdv;ac_rfl;rw [eK];refine⟨zs,cs,hp,hq,ht,hc,λ H1 e1=>?_⟩;have hx1:=e1.at hx;ac_rfl;rw [aV];refine⟨"rest",[d],hx1,by simp,λ H2 e2=>?_⟩;rw [show (decide ((([d]:List Int).length:Int)=0) && (("rest":Str) == Str.ofString "low"))=false by rfl];have hx2:=e2.at hx1;clear hx hx1;ac_rfl;rw [aV];refine⟨"rest",[d],hx2,by simp,λ H3 e3=>?_⟩;rw [show (decide ((([d]:List Int).length:Int)=0) && (("rest":Str) == Str.ofString "high"))=false by rfl];have hx3:=e3.at hx2;clear hx2;ac_rfl;rw [aV];refine⟨"rest",[d],hx3,by simp,λ H4 e4=>?_⟩;rw [show (decide ((([d]:List Int).length:Int)=1) && (("rest":Str) == Str.ofString "rest"))=true by rw [q4];rfl];have hx4:=e4.at hx3;have e04:=e1.trans (e2.trans (e3.trans e4));clear hx3;ac_rfl;rw [su];refine⟨zs,cs,bL hp e04,aC hq e04,ht,hc,hd,hdv (),λ H5 e5=>?_⟩;have hx5:=e5.at hx4;have k':=k () H5 (e04.trans e5);have hd0:0 < d:=by omega
   have hs2:¬ (g - bf zs cs) % d=0:=by omega
   clear k hx4 hdv;ac_rfl
  ·cases hm
abbrev iQ  (q:Addr) (x:Addr) (H:Hp) (Q:VK) (E:XK):Prop:=∃ (zs:List Tm3) (g:Int) (cs:Bx) (ss:List V) (more:List Bx),du H q cs/\cW zs/\cU zs cs/\H x=some (.tup ss)/\dZ zs g cs ss more/\∀ H',Ext H H'->Q (.bl (decide (0 < more.length))) H'
def hV  : Sp:=λ vs H Q E=>∃ (q:Addr) (x:Addr),vs=[.ref q,.ref x]/\(iQ  q x H Q E)
theorem oO  (q:Addr) (x:Addr) (H:Hp) (Q:VK) (E:XK):hV  [.ref q,.ref x] H Q E=(iQ  q x H Q E):=sJ (f:=λ (q:Addr) (x:Addr)=>[.ref q,.ref x]) (λ _ _ _ _ h=>by cases h;exact⟨rfl,rfl⟩) q x
theorem oI  {vs:List V}{H:Hp}{Q:VK}{E:XK}(h:hV  vs H Q E):vs.length=2:=sL h λ _ _=>rfl
theorem oq(T:Tx K mg t):bC P w K mg base CX0 3 t.a_parts_by t.d_parts_by ["case", "step"] hV:=by
 have G_is_step:=%[jt|46];refine T.F_parts_by.ok sv (λ vs H Q E h=>oI h) (λ c A o s H vs Q E hr h=>?_)
 ·obtain⟨q,x,rfl,zs,g,cs,ss,more,hq,ht,hc,hx,hs,k⟩:=h;refine⟨_,%[%[(PW.pt %[%[%[%[is_step,%[%[1|0],%[(@bH _ _ _ _),%[%[0|2]|1]|1]|1]|3],(by intros;rfl)|19]|20],%[%[%[i7,cD,%[0|2],%[ay,%[1|0],%[0|2],(λ _ _=>rfl)|9],%[len,aw,%[%[0|0]|1]|6],∅|45]|20]|29]|21]),%[%[(@cC _ _ _ _)|13]|11],(@ar _)|16],%[%[(@l5 _ _ _ _ _ _ _ _ _ _ _ _ i7 cD %[ay,%[ay,%[0|0],%[ay,%[1|0],%[0|2],(λ _ _=>rfl)|9],(λ _ _=>rfl)|9],%[0|2],(λ _ _=>rfl)|9] %[ay,%[1|0],%[0|2],(λ _ _=>rfl)|9] %[ay,%[ay,%[0|0],%[ay,%[1|0],%[0|2],(λ _ _=>rfl)|9],(λ _ _=>rfl)|9],%[0|2],(λ _ _=>rfl)|9] ∅)|13]|11]|10],?_⟩;rw [show start ["case", "step"] [.ref q,.ref x]=[some (.ref q),some (.ref x)] from rfl];clear G_is_step;exists k;have q4:((Str.ofString "part":Str) == Str.ofString "part")=true:=by decide +kernel
  rcases hs with ⟨rfl,hs,rfl⟩|⟨rfl,hs,rfl⟩|⟨d,rfl,hd,hdv,hs,rfl⟩|⟨m,a,rfl,hm,ha1,ha2,hs,rfl⟩
  ·ac_rfl;rw [aV];refine⟨"low",[],hx,by decide,λ H2 e2=>?_⟩;rw [show (decide ((([]:List Int).length:Int)=2) && (("low":Str) == Str.ofString "part"))=false by rfl];have k':Q (.bl false) H2:=k () H2 e2;clear k;ac_rfl
  ·ac_rfl;rw [aV];refine⟨"high",[],hx,by decide,λ H2 e2=>?_⟩;rw [show (decide ((([]:List Int).length:Int)=2) && (("high":Str) == Str.ofString "part"))=false by rfl];have k':Q (.bl false) H2:=k () H2 e2;clear k;ac_rfl
  ·ac_rfl;rw [aV];refine⟨"rest",[d],hx,by simp,λ H2 e2=>?_⟩;rw [show (decide ((([d]:List Int).length:Int)=2) && (("rest":Str) == Str.ofString "part"))=false by rfl];have k':Q (.bl false) H2:=k () H2 e2;clear k hdv;ac_rfl
  ·ac_rfl;rw [aV];refine⟨"part",[(m:Int),a],hx,by simp,λ H2 e2=>?_⟩;rw [show (decide ((([(m:Int),a]:List Int).length:Int)=2) && (("part":Str) == Str.ofString "part"))=true by rw [q4];rfl];have k':Q (.bl true) H2:=k () H2 e2;obtain⟨xs,hq2,bl⟩:=aC hq e2;have hx2:=e2.at hx;have hxl:xs.length=cs.length:=bl.1;have hmc:m < cs.length:=by have:=hc.len;omega
   obtain⟨y,hat,hy⟩:=fq bl hmc;rw [LF] at hat;have hm0:(0:Int)<=(m:Int):=by omega
   have hm1:(m:Int) < (cs.length:Int):=by omega
   generalize cs.getD m default=ci at *;clear k bl hx;ac_rfl
theorem Rep.no{zs:List Tm3}{g:Int}(hz:∀ z∈zs,(0:Int)<=z.1):∀ {p:List (List V)}{st:List Bx},Rep zs g st p []->∀ c∈st,∀ xs,InB c xs->jd zs xs ≠ g
 | [],st,h,c,hc,_,_=>by
  have e:st=[]:=by cases st<;>exact h
  rw [e] at hc;cases hc
 | _::_,[],h,_,_,_,_=>h.elim
 | s::p,d::st,⟨more,h1,hd,h3⟩,c,hc,xs,hx=>by
  have ih:=Rep.no hz h3
  rcases Ls.mp hc with rfl|hc
  ·obtain⟨b1,b2⟩:=iD hz hd.len hx
   rcases h1 with ⟨_,hs,_⟩|⟨_,hs,_⟩|⟨d,_,h2,hdv,hs,_⟩|⟨k,a,_,hk,_,_,_,rfl⟩
   ·omega
   ·omega
   ·intro e;have:=pS d hd.len hx hdv;rw [e] at this;rw [Nl this] at hs;omega
   ·rcases uO (k:=k) (a:=a) (by rw [hd.len];exact hk) hx with h|h
    ·exact ih _ (L5 _ (KZ _ K1)) xs h
    ·exact ih _ (L5 _ K1) xs h
  ·exact ih c (Lx _ hc) xs hx
abbrev iR(C:Addr)(u:Addr)(v:Addr)(x:Addr)(H:Hp)(Q:VK)(E:XK):Prop:=∃ (room f1 f2:Int) (A B:List (Int × Int)) (pp:List (List V)),bj C H u room f1 A/\bj C H v room f2 B/\oW A/\oW B/\jT H x pp/\pp.length<=60000/\(∀ ks,jh ks (ak A B)->cW (af ks (ak A B))/\Rep (af ks (ak A B)) (f2 - f1) [(af ks (ak A B)).map λ z=>z.2] pp [])/\∀ H',Ext H H'->Q (.bl true) H'
def ia(C:Addr):Sp:=λ vs H Q E=>∃ (u:Addr) (v:Addr) (x:Addr),vs=[.ref u,.ref v,.ref x]/\(iR C u v x H Q E)
theorem oP(C:Addr)(u:Addr)(v:Addr)(x:Addr)(H:Hp)(Q:VK)(E:XK):ia C [.ref u,.ref v,.ref x] H Q E=(iR C u v x H Q E):=ni (f:=λ (u:Addr) (v:Addr) (x:Addr)=>[.ref u,.ref v,.ref x]) (λ _ _ _ _ _ _ h=>by cases h;exact⟨rfl,rfl,rfl⟩) u v x
theorem oJ(C:Addr){vs:List V}{H:Hp}{Q:VK}{E:XK}(h:ia C vs H Q E):vs.length=3:=nj h λ _ _ _=>rfl
theorem ow(T:Tx K mg t):bC P w K mg base CX0 5 t.a_is_apart t.d_is_apart ["one", "other", "paper"] (ia t.a_View):=by
 have G_gathered:=%[iH|46];have G_first_case:=%[fF|46];have G_parts_by:=%[oq|46];have G_ends_by:=%[qW|46];have G_parted:=%[md|46];refine T.F_is_apart.ok dm (λ vs H Q E h=>oJ _ h) (λ cdv A' outer s H vs Q E hr h=>?_)
 ·obtain⟨u,v,x,rfl,room,f1,f2,A,B,pp,vu,vv,hA,hB,⟨ys,hx,pl⟩,hpl,sh,k⟩:=h;refine⟨_,%[%[3,dm,%[gathered,%[%[0|0],%[%[1|0]|1]|1]|3]|4],%[%[%[%[%[isinstance,aK,%[%[2|0],%[%[(.ty "list"),(.type "list"),_,∅,T.z_list,nofun,rfl,⋯,⋯|32]|1]|1]|6],(by intros;rfl)|19]|20],%[%[(@cC _ _ _ _)|13]|11],(@ar _)|16],%[%[4,dm,%[%[%[first_case,%[%[ay,%[3|0],%[0|2],(λ _ _=>rfl)|9]|1]|3]|1]|23]|4],%[%[Lv,rfl,%[%[2|0]|24],%[5,dm|5],%[%[%[(cg hr.units),%[len,aw,%[%[4|0]|1]|6],%[0|2],(ai _)|14],%[%[(@cC _ _ _ _)|13]|11],(@ar _)|16],%[%[6,dm,%[Li,Ny,Nx,uj,%[4|0],∅,∅|43]|4],%[%[%[%[parts_by,%[%[6|0],%[%[5|0]|1]|1]|3],(by intros;rfl)|19],%[%[%[Li,PySem.F.slot_list_extend,PySem.F.type_list_extend,mh,%[4|0],%[%[parted,%[%[6|0],%[%[ay,%[5|0],%[0|2],(λ _ _=>rfl)|9],%[%[ay,%[5|0],%[0|2],(λ _ _=>rfl)|9]|1]|1]|1]|3]|1],∅,∅,∅,∅,∅|38],∅|34]|11],%[%[%[%[%[ends_by,%[%[ay,%[3|0],%[0|2],(λ _ _=>rfl)|9],%[%[ay,%[3|0],%[0|2],(λ _ _=>rfl)|9],%[%[6|0],%[%[5|0]|1]|1]|1]|1]|3],(by intros;rfl)|19]|20],%[%[(@cC _ _ _ _)|13]|11],(@ar _)|16]|11]|16]|11]|10]|10],(by intros;rfl)|30],%[%[%[(cg hr.units),%[len,aw,%[%[4|0]|1]|6],%[0|2],(ai _)|28]|13]|11]|10]|10]|10]|10],?_⟩;rw [show start ["one", "other", "paper", "found", "cases", "step", "case"] [.ref u,.ref v,.ref x]=[some (.ref u),some (.ref v),some (.ref x),none,none,none,none] from rfl];clear G_gathered G_first_case G_parts_by G_ends_by G_parted;have hyl:ys.length=pp.length:=pl.1;exists k;exists sh;exists pl;exists hyl;ac_rfl;rw [qj];refine⟨room,f1,f2,A,B,vu,vv,hA,hB,λ ks l r0 H1 e1 hr1 t1 ko=>?_⟩;obtain⟨ht,rep⟩:=sh () ks ko;generalize af ks (ak A B)=zs at *;generalize f2 - f1=g at *;have h17:=ht.len;have hx1:=e1.at hx;exists rep;clear sh ko;ac_rfl;rw [jD];refine⟨zs,t1,h17,λ c0 H2 e2 p2=>?_⟩;ac_rfl;intro cA H3 hcA e3 h3;have ncA:c0 ≠ cA:=λ z=>by obtain⟨_,hh,_⟩:=p2;rw [z,hcA] at hh;cases hh
  have hcA1:H1 cA=none:=e2.free hcA;have st3:dq H3 cA cA [zs.map λ z=>z.2] [.ref c0]:=⟨[],.ref c0,rfl,⟨c0,rfl,ncA,ncA,aC p2 e3⟩,rfl⟩;have e13:=e2.trans e3;have hx3:=e13.at hx1;exists st3;clear hcA p2 e2 e3;ac_rfl;refine ed (xs:=ys) (λ i σ H'=>∃ (st:List Bx) (cl:List V) (v5 v6:Option V),σ=[some (.ref u),some (.ref v),some (.ref x),some (.ref r0),some (.ref cA),v5,v6]/\Ext H1 H'/\H' cA=some (.lst cl)/\dq H' cA cA st cl/\Rep zs g st (pp.drop i) []) ⟨_,_,none,none,rfl,e13,h3,st3 (),rep ()⟩ (λ i σ H' _ ⟨_,_,_,_,_,e,_⟩=>e.at hx1) ?_ ?_
  ·clear st3 h3 hx3 e13 rep;rintro i y _ H5 hi ⟨st,cl,v5,v6,rfl,e5,h5,stk,rp⟩;have hip:i < pp.length:=by have:=(K0.mp hi).1;have:=hyl ();omega
   obtain⟨sr,rfl,hsr⟩:=(pl ()).2 i pp[i] y (KU hip) hi;have hln:=Rep.len rp;rw [M1] at hln;rw [Nd hip] at rp
   cases st with
   | nil=>exact rp.elim
   | cons c st=>
    obtain⟨more,hst,hc,rp'⟩:=rp;have hmm:=hst.more;obtain⟨cl0,y,rfl,hcy,stk'⟩:=stk;obtain⟨a,rfl,nac,_,pa⟩:=hcy;have hcl0:=stk'.len;rw [Lr] at hln;have hcl1:cl0.length<=60000:=by omega
    have hsr5:=(e1.trans e5).at hsr;obtain⟨cl,hcl⟩:∃ cl,cl0++[V.ref a]=cl:=⟨_,rfl⟩;have hlen:¬ (cl.length:Int)=0:=by rw [←hcl,K4,K9];omega
    have hlen2:0 < (cl.length:Int):=by omega
    have hlast:cl[cl.length - 1]? = some (.ref a):=by rw [←hcl,K4,K9,MP,Lk (K3 _),M5];rfl
    have hdrop:cl.dropLast=cl0:=by rw [←hcl,NG]
    rw [hcl] at h5;have h7c:upd H5 cA (.lst cl0) cA=some (.lst cl0):=ah;have cs7:=CsV.upd (o:=.lst cl0) (c:=c) (y:=.ref a) ⟨a,rfl,nac,nac,pa⟩ h5 (.inl rfl);have st7:=dq.upd (o:=.lst cl0) h5 (.inl rfl) stk';have e17:Ext H1 (upd H5 cA (.lst cl0)):=e5.put hcA1;have hsr7:upd H5 cA (.lst cl0) sr=some (.tup pp[i]):=by rw [ae (λ e=>by rw [e,h5] at hsr5;cases hsr5)];exact hsr5
    have hr7:=e17.at hr1;exists hst;exists rp';exists hmm;exists hcl;exists hcl0;exists st7;clear hi pa stk' hsr hsr5;simp! only [↓aE];generalize upd H5 cA (.lst cl0)=H7 at *;clear h5 hlen hlen2 hlast hdrop hcl e5;obtain⟨_,ha',_,_,pa7⟩:=cs7;cases ha';rw [oO];refine⟨zs,g,c,pp[i],more,pa7,ht,hc,hsr7,hst (),λ H8 e8=>?_⟩;have e18:=e17.trans e8;have h8c:=e8.at h7c;have st8:=λ (_:Unit)=>(st7 ()).ext e8;have pa8:=aC pa7 e8;have hsr8:=e8.at hsr7;have hr8:=e8.at hr7;have hst':=hst ();clear h7c st7 pa7 hsr7 hr7 hst
    rcases hst' with ⟨hs0,hs1,rfl⟩|⟨hs0,hs1,rfl⟩|⟨d,hs0,hd,hdv,hs1,rfl⟩|⟨m,b,hs0,hm,hb1,hb2,hs1,rfl⟩
    ·have so:dZ zs g c pp[i] []:=.inl ⟨hs0,hs1,rfl⟩;rw [show decide (0 < ([]:List Bx).length)=false from rfl];exists so;clear hmm hs0;ac_rfl;rw [gh];refine⟨zs,c,pp[i],bL t1 e18,pa8,ht,hc,hsr8,so (),λ H9 e9=>?_⟩;have h9c:=e9.at h8c;have st9:=(st8 ()).ext e9;have e19:=e18.trans e9;exists st9;clear h8c st8 pa8 hsr8 hr8;ac_rfl;exact⟨_,_,_,_,rfl,e19,(by first|rfl|exact h9c),st9 (),rp' ()⟩
    ·have so:dZ zs g c pp[i] []:=.inr (.inl ⟨hs0,hs1,rfl⟩);rw [show decide (0 < ([]:List Bx).length)=false from rfl];exists so;clear hmm hs0;ac_rfl;rw [gh];refine⟨zs,c,pp[i],bL t1 e18,pa8,ht,hc,hsr8,so (),λ H9 e9=>?_⟩;have h9c:=e9.at h8c;have st9:=(st8 ()).ext e9;have e19:=e18.trans e9;exists st9;clear h8c st8 pa8 hsr8 hr8;ac_rfl;exact⟨_,_,_,_,rfl,e19,(by first|rfl|exact h9c),st9 (),rp' ()⟩
    ·have so:dZ zs g c pp[i] []:=.inr (.inr (.inl ⟨d,hs0,hd,hdv,hs1,rfl⟩));rw [show decide (0 < ([]:List Bx).length)=false from rfl];exists so;clear hmm hs0 hdv;ac_rfl;rw [gh];refine⟨zs,c,pp[i],bL t1 e18,pa8,ht,hc,hsr8,so (),λ H9 e9=>?_⟩;have h9c:=e9.at h8c;have st9:=(st8 ()).ext e9;have e19:=e18.trans e9;exists st9;clear h8c st8 pa8 hsr8 hr8;ac_rfl;exact⟨_,_,_,_,rfl,e19,(by first|rfl|exact h9c),st9 (),rp' ()⟩
    ·rw [show decide (0 < ([loC c m b,upC c m b]:List Bx).length)=true from rfl];rw [hs0] at hsr8;have hmc:m < c.length:=by have:=hc.len;omega
     have hc17:c.length<=17:=by have:=hc.len;omega
     clear hmm hs0;ac_rfl;rw [jA];refine⟨c,m,rfl,pa8,hmc,hc17,λ r10 a1 a2 H10 n1 n2 e10 h10 p1 p2=>?_⟩;have e110:=e18.trans e10;have h10c:=e10.at h8c;have st10:=(st8 ()).ext e10;have m1c:a1 ≠ cA:=λ z=>by rw [z,h8c] at n1;cases n1
     have m2c:a2 ≠ cA:=λ z=>by rw [z,h8c] at n2;cases n2
     have stN:dq H10 cA cA (loC c m b::upC c m b::st) (cl0++[.ref a1,.ref a2]):=⟨cl0++[.ref a1],.ref a2,by rw [MB];rfl,⟨a2,rfl,m2c,m2c,p2⟩,cl0,.ref a1,rfl,⟨a1,rfl,m1c,m1c,p1⟩,st10⟩;have stM:=dq.upd (o:=.lst (cl0++[.ref a1,.ref a2])) h10c (.inl rfl) stN;have e111:Ext H1 (upd H10 cA (.lst (cl0++[.ref a1,.ref a2]))):=e110.put hcA1;have hext:cl0.length+2<=sizeLine:=j8 %[0|8];exists stM;clear h8c st8 pa8 hsr8 hr8 n1 n2 st10 stN p1 p2;ac_rfl;exact⟨_,_,_,_,rfl,e111,by first|rfl|exact ah,stM (),rp' ()⟩
  ·rintro _ H5 ⟨st,cl,v5,v6,rfl,e5,h5,stk,rp⟩;rw [hyl (),N4] at rp
   have hs0:st=[]:=by cases st<;>exact rp
   subst hs0;have hcl:cl=[]:=stk;subst hcl;have k':=k () H5 (e1.trans e5);clear k rp stk;ac_rfl
theorem oh:∀ {A:List (Int × Int)}{ys:List Int},InA A ys->InA (A.map aj) ys
 | [],[],_=>trivial
 | [],_::_,h=>h.elim
 | _::_,[],h=>h.elim
 | _::_,_::_,h=>⟨h.1,oh h.2⟩
theorem hJ:∀ {A:List (Int × Int)}{ys:List Int},InA (A.map aj) ys->InA A ys
 | [],[],_=>trivial
 | [],_::_,h=>h.elim
 | _::_,[],h=>h.elim
 | _::_,_::_,h=>⟨h.1,hJ h.2⟩
theorem dA:∀ {A:List (Int × Int)}{ys:List Int},InA A ys->cF (A.map aj) ys=cF A ys
 | [],[],_=>rfl
 | [],_::_,h=>h.elim
 | _::_,[],h=>h.elim
 | a::A,y::ys,h=>by
  show (if a.1 > 1 then a.2 else 0) * y+cF (A.map aj) ys=a.2 * y+cF A ys
  rw [dA h.2]
  by_cases h1:a.1 > 1
  ·rw [K7 h1]
  ·have hy:y=0:=by have:=h.1;omega
   rw [K5 h1,hy,LL,LL]
theorem vg:∀ {P:List (Int × Int)}{z:Int × Int},(∀ y∈P,(1:Int)<=y.2)->z∈P->z.2 - 1<=fK P (ag z.1)
 | y::P,z,h,hz=>by
  have hP:∀ x∈P,(1:Int)<=x.2:=λ x hx=>h x (KZ _ hx);have hn:=pq hP (ag z.1);have hy:=h y K1;rw [eJ]
  rcases Ls.mp hz with rfl|hz
  ·rw [K7 rfl];omega
  ·have:=vg hP hz
   split<;>omega
theorem Az:∀ {P:List (Int × Int)},(∀ y∈P,1<=y.2/\y.2<=1000)->∀ t,fK P t<=999 * (P.length:Int)
 | [],_,t=>Lp 0
 | y::P,h,t=>by
  have ih:=Az (P:=P) (λ x hx=>h x (KZ _ hx)) t;have hy:=h y K1;rw [eJ,Lr]
  split<;>omega
theorem Av:∀ {P:List (Int × Int)},(∀ y∈P,(1:Int)<=y.2)->∀ t,cT P t<=0/\0<=bD P t
 | [],_,_=>⟨Lp _,Lp _⟩
 | y::P,h,t=>by
  have ih:=Av (P:=P) (λ x hx=>h x (KZ _ hx)) t;have hy:=h y K1
  have l1:loP y<=0:=by unfold loP;split<;>omega
  have l2:0<=hiP y:=by unfold hiP;split<;>omega
  show (if ag y.1=t then loP y else 0)+cT P t<=0/\0<=(if ag y.1=t then hiP y else 0)+bD P t
  split<;>omega
theorem Ah(a:Int × Int):ag (sgP (-1) a).1=ag (sgP 1 a).1:=by
 show ag (-1 * (aj a).2)=ag (1 * (aj a).2)
 unfold ag;omega
theorem Fe{A B:List (Int × Int)}{t:Int}:(∃ z∈A.map (sgP 1)++B.map (sgP (-1)),ag z.1=t) ↔ (∃ a∈A,ag (sgP 1 a).1=t)\/∃ a∈B,ag (sgP 1 a).1=t:=by
 constructor
 ·rintro ⟨z,hz,e⟩
  rcases Lu.mp hz with hz|hz
  ·obtain⟨a,ha,rfl⟩:=Lo.mp hz;exact .inl ⟨a,ha,e⟩
  ·obtain⟨a,ha,rfl⟩:=Lo.mp hz;exact .inr ⟨a,ha,by rw [←Ah];exact e⟩
 ·rintro (⟨a,ha,e⟩|⟨a,ha,e⟩)
  ·exact⟨_,L5 _ (MN ha),e⟩
  ·exact⟨_,Lx _ (MN ha),by rw [Ah];exact e⟩
theorem jh.swap{ks:List Int}{A B:List (Int × Int)}(h:jh ks (ak (A.map aj) (B.map aj))):jh ks (ak (B.map aj) (A.map aj)):=by
 refine⟨h.nd,?_,λ t=>?_,h.ord⟩
 ·have:=h.len;rw [nR,K4,K2,K2] at this ⊢;omega
 ·have:=h.mem t;rw [nR,Fe] at this ⊢;rw [this];exact⟨λ x=>⟨x.1,x.2.symm⟩,λ x=>⟨x.1,x.2.symm⟩⟩
theorem pV{A B:List (Int × Int)}{z:Int × Int}(hz:z∈ak A B):∃ a,(a∈A\/a∈B)/\ag z.1=ag a.2/\z.2=a.1/\(z.1=0 ↔ a.2=0):=by
 unfold ak at hz
 rcases Lu.mp hz with hz|hz
 ·obtain⟨a,ha,rfl⟩:=Lo.mp hz;exact⟨a,.inl ha,rfl,rfl,Iff.rfl⟩
 ·obtain⟨a,ha,rfl⟩:=List.mem_map.mp hz;exact⟨a,.inr ha,by show ag (-a.2)=_;unfold ag;omega,rfl,by show -a.2=0 ↔ _;omega⟩
theorem b5.sz{A B:List (Int × Int)}(h:b5 A B){z:Int × Int}(hz:z∈ak A B):(1<=z.2/\z.2<=1000)/\(z.1 ≠ 0->2<=z.2/\pW (ag z.1) (ak A B) < ag z.1)/\ag z.1<=100000000000000000:=by
 obtain⟨a,ha,e1,e2,e3⟩:=pV hz
 have hs:(1<=a.1/\a.1<=1000)/\(a.2 ≠ 0->2<=a.1):=by
  rcases ha with ha|ha
  ·exact h.kA.sz a ha
  ·exact h.kB.sz a ha
 have w1:=qI λ a ha=>(h.kA.one a ha).1;have w2:=qI λ a ha=>(h.kB.one a ha).1
 have hw:ag a.2<=wS A+wS B:=by
  rcases ha with ha|ha
  ·have:=lQ h.kA.one a ha;omega
  ·have:=lQ h.kB.one a ha;omega
 have:=h.le;refine⟨by rw [e2];exact hs.1,λ h0=>?_,by omega⟩;have a0:a.2 ≠ 0:=λ q=>h0 (e3.mpr q);refine⟨by rw [e2];exact hs.2 a0,?_⟩;rw [EN,e1];exact h.fall a ha a0
theorem b5.tms{A B:List (Int × Int)}{ks:List Int}(h:b5 A B)(hk:jh ks (ak A B)):cW (af ks (ak A B))/\tI (af ks (ak A B)):=by
 have one:∀ y∈ak A B,(1:Int)<=y.2:=λ y hy=>(h.sz hy).1.1
 have hlen:(ak A B).length<=16:=by
  unfold ak;rw [length_append,length_map,length_map];have:=h.kA.len;have:=h.kB.len;omega
 refine⟨⟨by unfold af;rw [length_map];have:=hk.len;omega,λ z hz=>?_⟩,jv one (λ z hz h0=>((h.sz hz).2.1 h0).2) hk.nd hk.ord λ t ht=>(hk.mem t).mp ht⟩;unfold af at hz;obtain⟨t,ht,rfl⟩:=List.mem_map.mp hz;obtain⟨t0,y,hy,e⟩:=(hk.mem t).mp ht;have hs:=h.sz hy;have y0:y.1 ≠ 0:=λ q=>t0 (by rw [←e,q];rfl);have h2:=(hs.2.1 y0).1;have h3:=hs.2.2;have hc:=vg one hy;have hc2:=Az (λ x hx=>(h.sz hx).1) t;have hl:=Av one t;have hhl:=gN (ak A B) t;rw [e] at hc h3;have ht':=kf y.1;rw [e] at ht'
 show (1<=t/\t<=2000000000000000000)/\(-2000000000<=cT (ak A B) t/\cT (ak A B) t<=2000000000)/\cT (ak A B) t < bD (ak A B) t/\bD (ak A B) t<=2000000000
 omega
theorem Ap:∀ c:Bx,opn c<=c.length
 | []=>K3 _
 | b::c=>by
  have:=Ap c
  show (if b.1 < b.2 then 1 else 0)+opn c<=c.length+1
  split<;>omega
theorem sW{A B:List (Int × Int)}{g most:Int}(h:b5 A B)(hm:∀ ks,jh ks (ak A B)->1+4 * (ks.length:Int)<=most):J9 A B g most:=by
 refine⟨λ ks hk=>?_⟩;obtain⟨t1,t2⟩:=h.tms hk;have hz:∀ z∈af ks (ak A B),(1:Int)<=z.1:=λ z hz=>(t1.all z hz).1.1;have hl:=t1.len;have h1:=(xy (zs:=af ks (ak A B)) (g:=g) (c:=(af ks (ak A B)).map λ z=>z.2)).2;have h2:=Ap ((af ks (ak A B)).map λ z=>z.2);have e:(af ks (ak A B)).length=ks.length:=by unfold af;rw [length_map]
 rw [K2,e] at h2;have h3:=hm ks hk;exact⟨t1,pfF (af ks (ak A B)) g,⟨λ c _=>xy.1,λ c q hc he _ hq=>BI hz t2 hc he hq⟩,by omega,by omega⟩
theorem EJ{A B:List (Int × Int)}{g most:Int}{ks xs:List Int}{pp:List (List V)}(h:lJ A B g most ks (some xs) pp):InA A ((plF ks (ak A B) xs).take A.length)/\InA B ((plF ks (ak A B) xs).drop A.length)/\cF A ((plF ks (ak A B) xs).take A.length)=g+cF B ((plF ks (ak A B) xs).drop A.length):=by
 obtain⟨x1,x2⟩:=h.sh xs rfl;obtain⟨i1,i2⟩:=jZ x1;have e:=gO i1 i2;rw [List.take_append_drop,x2] at e;exact⟨i1,i2,by omega⟩
theorem D7{A B:List (Int × Int)}{g most:Int}{ks:List Int}{pp:List (List V)}(hv:b5 A B)(sr:lJ A B g most ks none pp):¬ fm A B g:=by
 rintro ⟨ys,zs,iA,iB,e⟩;obtain⟨h1,_⟩:=sr.ap rfl;have h4:=(hv.tms sr.kok).1
 have hkz:∀ z∈ak A B,ag z.1=0\/ag z.1∈ks:=λ z hz=>by
  by_cases e:ag z.1=0
  ·exact .inl e
  ·exact .inr ((sr.kok.mem _).mpr ⟨e,z,hz,rfl⟩)
 obtain⟨x0,hx1,hx2⟩:=wX sr.kok.nd hkz (kL iA iB) (g:=g) (by rw [gO iA iB];omega);exact absurd hx2 (h1.no (λ z hz=>by have:=(h4.all z hz).1;omega) _ K1 x0 hx1)
theorem jT.ext{H H':Hp}{a:Addr}{pp:List (List V)}(h:jT H a pp)(e:Ext H H'):jT H' a pp:=by
 obtain⟨ys,h1,h2⟩:=h;exact⟨ys,e.at h1,h2.ext e⟩
theorem mn{R S:List (Int × Int)}{g:Int}:fm (R.map aj) (S.map aj) g ↔ fm R S g:=by
 constructor
 ·rintro ⟨ys,zs,i1,i2,e⟩;have k1:=hJ i1;have k2:=hJ i2;rw [dA k1,dA k2] at e;exact⟨ys,zs,k1,k2,e⟩
 ·rintro ⟨ys,zs,i1,i2,e⟩;exact⟨ys,zs,oh i1,oh i2,by rw [dA i1,dA i2];exact e⟩
def DT(H:Hp)(x:Addr)(R S:List (Int × Int))(g:Int)(b:Bool):Prop:=(b=true/\∃ (ys zs:List Int) (a1 a2:Addr),H x=some (.tup [.str "shared",.ref a1,.ref a2])/\H a1=some (.tup (ys.map V.int))/\H a2=some (.tup (zs.map V.int))/\InA R ys/\InA S zs/\cF R ys=g+cF S zs)\/(b=false/\∃ (pp:List (List V)) (a1:Addr),H x=some (.tup [.str "apart",.ref a1])/\jT H a1 pp/\pp.length<=60000/\∀ ks,jh ks (ak (R.map aj) (S.map aj))->(pp.length:Int)<=1+4 * (ks.length:Int)/\Rep (af ks (ak (R.map aj) (S.map aj))) g [(af ks (ak (R.map aj) (S.map aj))).map λ z=>z.2] pp [])
theorem DT.ext{H H':Hp}{x:Addr}{A B:List (Int × Int)}{g:Int}{b:Bool}(h:DT H x A B g b)(e:Ext H H'):DT H' x A B g b:=by
 rcases h with ⟨hb,ys,zs,a1,a2,h1,h2,h3,r⟩|⟨hb,pp,a1,h1,h2,r⟩
 ·exact .inl ⟨hb,ys,zs,a1,a2,e.at h1,e.at h2,e.at h3,r⟩
 ·exact .inr ⟨hb,pp,a1,e.at h1,h2.ext e,r⟩
theorem Ar{R S:List (Int × Int)}{g mo:Int}{ks xs:List Int}{pp:List (List V)}(sr:lJ (R.map aj) (S.map aj) g mo ks (some xs) pp):InA R ((plF ks (ak (R.map aj) (S.map aj)) xs).take R.length)/\InA S ((plF ks (ak (R.map aj) (S.map aj)) xs).drop R.length)/\cF R ((plF ks (ak (R.map aj) (S.map aj)) xs).take R.length)=g+cF S ((plF ks (ak (R.map aj) (S.map aj)) xs).drop R.length):=by
 obtain⟨s1,s2,s3⟩:=EJ sr;rw [K2] at s1 s2 s3;have k1:=hJ s1;have k2:=hJ s2;rw [dA k1,dA k2] at s3;exact⟨k1,k2,s3⟩
theorem uv{R S:List (Int × Int)}{g mo:Int}{ks:List Int}{o:Option (List Int)}{pp:List (List V)}{H0 H:Hp}{r:Addr}{b:Bool}(hv:b5 (R.map aj) (S.map aj))(sr:lJ (R.map aj) (S.map aj) g mo ks o pp)(w:ShV H0 H r (R.map aj).length ks (ak (R.map aj) (S.map aj)) pp o)(hm:∀ l,jh l (ak (R.map aj) (S.map aj))->mo=1+4 * (l.length:Int))(hb:b=true ↔ fm R S g):DT H r R S g b:=by
 cases o with
 | some xs=>
  obtain⟨a1,a2,w1,w2,w3⟩:=w;rw [K2] at w2 w3;obtain⟨s1,s2,s3⟩:=Ar sr;exact .inl ⟨hb.mpr ⟨_,_,s1,s2,s3⟩,_,_,a1,a2,w1,w2,w3,s1,s2,s3⟩
 | none=>
  obtain⟨a1,_,w1,w2⟩:=w;obtain⟨h1,h2,h3⟩:=sr.ap rfl;refine .inr ⟨?_,pp,a1,w1,w2,h3,λ l hl=>by rw [hl.uniq sr.kok];exact⟨by have:=hm ks sr.kok;omega,h1⟩⟩
  cases b with
  | false=>rfl
  | true=>exact absurd (mn.mpr (hb.mp rfl)) (D7 hv sr)
theorem me:∀ {l m:List Int},l.Nodup->(∀ x∈l,x∈m)->l.length<=m.length
 | [],_,_,_=>LJ _
 | x::l,m,hn,h=>by
  obtain⟨h1,h2⟩:=LD.mp hn;have hx:=h x K1;have ih:=me (l:=l) (m:=m.erase x) h2 λ y hy=>(List.mem_erase_of_ne (λ e=>h1 (by rw [←e];exact hy))).mpr (h y (KZ _ hy));have hl:=List.length_erase_of_mem hx;have hp:=List.length_pos_of_mem hx;rw [Lr];omega
theorem pQ{R:List (Int × Int)}{ks:List Int}(hk:jh ks (ak (R.map aj) (R.map aj))):ks.length<=R.length:=by
 have:=me (l:=ks) (m:=(R.map aj).map λ a=>ag a.2) hk.nd λ t ht=>by
  obtain⟨_,z,hz,e⟩:=(hk.mem t).mp ht;obtain⟨a,ha,e1,_⟩:=pV hz;exact Lo.mpr ⟨a,ha.elim id id,by rw [←e,e1]⟩
 rw [K2,K2] at this;exact this
abbrev jI  (x:Addr) (p:Addr) (q:Addr) (g:Int) (b:Bool) (H:Hp) (Q:VK) (E:XK):Prop:=∃ (R S:List (Int × Int)),du H p R/\du H q S/\b5 (R.map aj) (S.map aj)/\(∀ a∈R,-100000000000000000<=a.2/\a.2<=100000000000000000)/\(∀ a∈S,-100000000000000000<=a.2/\a.2<=100000000000000000)/\DT H x R S g b/\∀ H',Ext H H'->Q (.bl true) H'
def kn  : Sp:=λ vs H Q E=>∃ (x:Addr) (p:Addr) (q:Addr) (g:Int) (b:Bool),vs=[.ref x,.ref p,.ref q,.int g,.bl b]/\(jI  x p q g b H Q E)
theorem gg  (x:Addr) (p:Addr) (q:Addr) (g:Int) (b:Bool) (H:Hp) (Q:VK) (E:XK):kn  [.ref x,.ref p,.ref q,.int g,.bl b] H Q E=(jI  x p q g b H Q E):=Kk (f:=λ (x:Addr) (p:Addr) (q:Addr) (g:Int) (b:Bool)=>[.ref x,.ref p,.ref q,.int g,.bl b]) (λ _ _ _ _ _ _ _ _ _ _ h=>by cases h;exact⟨rfl,rfl,rfl,rfl,rfl⟩) x p q g b
theorem rK  {vs:List V}{H:Hp}{Q:VK}{E:XK}(h:kn  vs H Q E):vs.length=5:=Kl h λ _ _ _ _ _=>rfl
theorem kY(T:Tx K mg t):bC P w K mg base CX0 6 t.a__law_right t.d__law_right ["_law_found", "_law_one", "_law_other", "_law_goal", "_law_meet_here"] kn:=by
 have G__law_met:=%[iI|46];have G__law_terms:=%[fG|46];have G__law_apart:=%[k7|46];refine T.F__law_right.ok gv (λ vs H Q E h=>rK h) (λ cdv A' outer s H vs Q E hr h=>?_)
 ·obtain⟨x,p,q,g,b,rfl,A,B,hp,hq,hv,bA,bB,an,k⟩:=h;refine⟨_,%[%[%[%[4|0],(by intros;rfl)|19],%[%[%[_law_met,%[%[0|0],%[%[1|0],%[%[2|0],%[%[3|0]|1]|1]|1]|1]|3]|13]|11],(@ar _)|16],%[%[5,gv,%[_law_terms,%[%[1|0],%[%[2|0]|1]|1]|3]|4],%[%[%[_law_apart,%[%[0|0],%[%[5|0],%[%[3|0],%[%[aH,%[0|2],%[bh,%[0|2],%[len,aw,%[%[5|0]|1]|6]|12]|12]|1]|1]|1]|1]|3]|13]|11]|10]|10],?_⟩;rw [show start ["_law_found", "_law_one", "_law_other", "_law_goal", "_law_meet_here", "_law_terms_here"] [.ref x,.ref p,.ref q,.int g,.bl b]=[some (.ref x),some (.ref p),some (.ref q),some (.int g),some (.bl b),none] from rfl];clear G__law_met G__law_terms G__law_apart;have a3:=hv.kA.len;have b3:=hv.kB.len;rw [K2] at a3 b3;have oA:∀ b∈A,(1:Int)<=b.1:=λ b hb=>(hv.kA.sz (aj b) (MN hb)).1.1;have oB:∀ b∈B,(1:Int)<=b.1:=λ b hb=>(hv.kB.sz (aj b) (MN hb)).1.1;exists bA;exists bB;exists oA;exists oB;exists k
  rcases an with ⟨rfl,ys,zs,a1,a2,h1,h2,h3,iA,iB,hd⟩|⟨rfl,pp,a1,h1,pap,h4,rep⟩
  ·exists iA;exists iB;exists hd;ac_rfl;rw [kR];refine⟨A,B,ys,zs,a1,a2,h1,h2,h3,hp,hq,by omega,by omega,iA (),iB (),bA (),bB (),hd (),λ H1 e1=>?_⟩;exact k () H1 e1
  ·exists rep;exists pap;ac_rfl;rw [jB];refine⟨A,B,hp,hq,by omega,by omega,oA (),oB (),λ ks r2 H2 e2 t2 ko=>?_⟩;obtain⟨rp1,rp2⟩:=rep () ks ko;have ht:=(hv.tms ko).1;obtain⟨ts,ht2,hal⟩:=t2;have hts:(ts.length:Int)=(ks.length:Int):=by rw [hal.1];unfold af;rw [length_map]
   have t2:gz H2 r2 (af ks (ak (A.map aj) (B.map aj))):=⟨ts,ht2,hal⟩;exists t2;exists rp2;have cm:gS 4 (ks.length:Int):=.inl ⟨by decide,by decide⟩;clear hal;ac_rfl;rw [sk];exact⟨_,pp,a1,e2.at h1,(pap ()).ext e2,t2 (),ht,rp1,h4,rp2 (),λ H3 e3=>k () H3 (e2.trans e3)⟩
theorem vG{xs:List V}{i:Int}{k:V->Prop}(P:V->Prop)(h0:0<=i)(h1:i < xs.length)(ha:∀ v∈xs,P v)(hk:∀ v,P v->k v):aO (atI xs i) k:=BU h0 h1 λ v hv=>hk v (ha v hv)
abbrev jJ  (c:Int) (n:Int) (s:Int) (H:Hp) (Q:VK) (E:XK):Prop:=0<=c/\(1<=n/\n<=1000)/\(1<=s/\s<=4)/\∀ (b m wy:Int) (r:Addr) (H':Hp),Ext H H'->H' r=some (.tup [.int b,.int m,.int wy])->eT (n,s,b,m,wy)->Q (.ref r) H'
def kq  : Sp:=λ vs H Q E=>∃ (c:Int) (n:Int) (s:Int),vs=[.int c,.int n,.int s]/\(jJ  c n s H Q E)
theorem jC  (c:Int) (n:Int) (s:Int) (H:Hp) (Q:VK) (E:XK):kq  [.int c,.int n,.int s] H Q E=(jJ  c n s H Q E):=ni (f:=λ (c:Int) (n:Int) (s:Int)=>[.int c,.int n,.int s]) (λ _ _ _ _ _ _ h=>by cases h;exact⟨rfl,rfl,rfl⟩) c n s
theorem rL  {vs:List V}{H:Hp}{Q:VK}{E:XK}(h:kq  vs H Q E):vs.length=3:=nj h λ _ _ _=>rfl
theorem k6(T:Tx K mg t):bC P w K mg base CX0 1 t.a__law_block t.d__law_block ["_law_cell_here", "_law_size", "_law_step"] kq:=by
 refine T.F__law_block.ok eD (λ vs H Q E h=>rL h) (λ c A o s' H vs Q E hr h=>?_)
 ·obtain⟨c,n,s,rfl,hc,hn,hs,k⟩:=h;refine⟨_,%[%[3,eD,%[aH,%[0|2],%[dN,%[uP,%[0|0],%[0|2]|12],%[aH,%[fx,%[uP,%[aF,%[1|0],%[0|2]|12],%[0|2]|12],%[2|0]|12],%[0|2]|12]|12]|12]|4],%[%[4,eD,%[dN,%[fx,%[0|0],%[Aq,%[0|2],%[0|2]|12]|12],%[aF,%[1|0],%[bh,%[aF,%[3|0],%[0|2]|12],%[2|0]|12]|12]|12]|4],%[%[%[%[%[4|0],%[%[3|0],%[%[aF,%[0|2],%[bh,%[0|2],%[dN,%[0|0],%[0|2]|12]|12]|12]|1]|1]|1]|17]|13]|11]|10]|10],?_⟩;rw [show start ["_law_cell_here", "_law_size", "_law_step", "_law_many", "_law_start"] [.int c,.int n,.int s]=[some (.int c),some (.int n),some (.int s),none,none] from rfl];exists k;obtain⟨q,hq⟩:∃ q,((n - 1) / 2).fdiv s=q:=⟨_,rfl⟩;have hq':((n - 1) / 2) / s=q:=by rw [←hq,Me _ %[0|8]]
  have q0:0<=q:=by rw [←hq'];exact Ms %[0|8] %[0|8]
  have qs:s * q<=(n - 1) / 2:=by rw [←hq'];exact(g6 _ %[0|8]).1
  have dv:nA ((n - 1) / 2) s:=⟨by omega,by omega⟩;have dv2:nA c 10000:=⟨by decide,by decide⟩;have m1:0 < q+1:=by omega
  obtain⟨m,hm⟩:∃ m,1+c / 4 % (q+1)=m:=⟨_,rfl⟩
  have mb:1<=m/\m<=q+1:=by
   have:=LP (c / 4) (show q+1 ≠ 0 by omega);have:=Mg (c / 4) m1;omega
  have ms:(m - 1) * s<=(n - 1) / 2:=by
   have:=LV (show m - 1<=q by omega) (show 0<=s by omega);rw [LM q s] at this;omega
  have ms0:0<=(m - 1) * s:=LH %[0|8] %[0|8];have cm:gS (m - 1) s:=.inr ⟨by omega,by omega⟩;have mp:0 < n - (m - 1) * s:=by omega
  obtain⟨b,hb⟩:∃ b,c.fdiv 10000 % (n - (m - 1) * s)=b:=⟨_,rfl⟩;have bb:0<=b/\b < n - (m - 1) * s:=by rw [←hb];exact⟨LP _ %[0|8],Mg _ mp⟩
  have ok:eT (n,s,b,m,1 - 2 * (c % 2)):=⟨hn,hs,bb.1,mb.1,by show b+(m - 1) * s<=n - 1;omega,by show 2 * ((m - 1) * s)<=n - 1;omega,by show 1 - 2 * (c % 2)=1\/1 - 2 * (c % 2)=-1;omega⟩;exists ok;clear hq' qs ms ms0;ac_rfl;intro r H1 _ e1 h1;exact k () b m _ r H1 e1 h1 (ok ())
theorem yq{x y:Sd}(hx:eT x)(hy:eT y)(hs:x.2.1=y.2.1):jm x y ↔ ((x.2.2.1 - y.2.2.1) % x.2.1=0/\x.2.2.1<=y.2.2.1+(y.2.2.2.1 - 1) * x.2.1/\y.2.2.1<=x.2.2.1+(x.2.2.2.1 - 1) * x.2.1):=by
 obtain⟨n,s,b,m,w⟩:=x;obtain⟨n',s',b',m',w'⟩:=y;have e:s=s':=hs;subst e;obtain⟨_,h2,h3,h4,_,_,_⟩:=hx;obtain⟨_,_,k3,k4,_,_,_⟩:=hy;have h2':1<=s/\s<=4:=h2;have h4':1<=m:=h4;have k4':1<=m':=k4
 show (∃ i j:Int,(0<=i/\i < m)/\(0<=j/\j < m')/\b+s * i=b'+s * j) ↔ ((b - b') % s=0/\b<=b'+(m' - 1) * s/\b'<=b+(m - 1) * s)
 have hs4:s=1\/s=2\/s=3\/s=4:=by omega
 constructor
 ·rintro ⟨i,j,hi,hj,e⟩
  rcases hs4 with rfl|rfl|rfl|rfl<;>omega
 ·rintro ⟨e,h,h'⟩
  by_cases hb:b'<=b
  ·refine⟨0,(b - b') / s,by omega,?_,?_⟩
   ·rcases hs4 with rfl|rfl|rfl|rfl<;>omega
   ·rcases hs4 with rfl|rfl|rfl|rfl<;>omega
  ·refine⟨(b' - b) / s,0,?_,by omega,?_⟩
   ·rcases hs4 with rfl|rfl|rfl|rfl<;>omega
   ·rcases hs4 with rfl|rfl|rfl|rfl<;>omega
abbrev mM  (p:Addr) (q:Addr) (s:Int) (H:Hp) (Q:VK) (E:XK):Prop:=∃ (x y:Sd),eT x/\eT y/\x.2.1=s/\y.2.1=s/\H p=some (.tup [.int x.2.2.1,.int x.2.2.2.1,.int x.2.2.2.2])/\H q=some (.tup [.int y.2.2.1,.int y.2.2.2.1,.int y.2.2.2.2])/\∀ b:Bool,(b=true ↔ jm x y)->Q (.bl b) H
def nL  : Sp:=λ vs H Q E=>∃ (p:Addr) (q:Addr) (s:Int),vs=[.ref p,.ref q,.int s]/\(mM  p q s H Q E)
theorem xi  (p:Addr) (q:Addr) (s:Int) (H:Hp) (Q:VK) (E:XK):nL  [.ref p,.ref q,.int s] H Q E=(mM  p q s H Q E):=ni (f:=λ (p:Addr) (q:Addr) (s:Int)=>[.ref p,.ref q,.int s]) (λ _ _ _ _ _ _ h=>by cases h;exact⟨rfl,rfl,rfl⟩) p q s
theorem wG  {vs:List V}{H:Hp}{Q:VK}{E:XK}(h:nL  vs H Q E):vs.length=3:=nj h λ _ _ _=>rfl
theorem mV(T:Tx K mg t):bC P w K mg base CX0 1 t.a__law_meet t.d__law_meet ["_law_one", "_law_other", "_law_step"] nL:=by
 refine T.F__law_meet.ok fk (λ vs H Q E h=>wG h) (λ c A o s' H vs Q E hr h=>?_)
 ·obtain⟨p,q,s,rfl,x,y,hx,hy,xs,ys,hp,hq,k⟩:=h;refine⟨_,%[%[3,fk,%[max,(fE rfl),%[%[ay,%[0|0],%[0|2],(λ _ _=>rfl)|9],%[%[ay,%[1|0],%[0|2],(λ _ _=>rfl)|9]|1]|1]|6]|4],%[%[4,fk,%[min,(ef rfl),%[%[aH,%[ay,%[0|0],%[0|2],(λ _ _=>rfl)|9],%[bh,%[aF,%[ay,%[0|0],%[0|2],(λ _ _=>rfl)|9],%[0|2]|12],%[2|0]|12]|12],%[%[aH,%[ay,%[1|0],%[0|2],(λ _ _=>rfl)|9],%[bh,%[aF,%[ay,%[1|0],%[0|2],(λ _ _=>rfl)|9],%[0|2]|12],%[2|0]|12]|12]|1]|1]|6]|4],%[%[%[%[(cg hr.units),%[dN,%[aF,%[ay,%[0|0],%[0|2],(λ _ _=>rfl)|9],%[ay,%[1|0],%[0|2],(λ _ _=>rfl)|9]|12],%[2|0]|12],%[0|2],(ai _)|28],%[%[i7,%[3|0],%[4|0],(ai _)|28]|33]|31]|13]|11]|10]|10],?_⟩;rw [show start ["_law_one", "_law_other", "_law_step", "_law_first", "_law_last"] [.ref p,.ref q,.int s]=[some (.ref p),some (.ref q),some (.int s),none,none] from rfl];have mi:=yq hx hy (xs.trans ys.symm);rw [xs] at mi;obtain⟨_,h2,h3,h4,h5,_,_⟩:=hx;obtain⟨_,_,k3,k4,k5,_,_⟩:=hy;rw [xs] at h2;generalize x.2.2.1=b at *;generalize x.2.2.2.1=m at *;generalize x.2.2.2.2=wx at *;generalize y.2.2.1=b' at *;generalize y.2.2.2.1=m' at *;generalize y.2.2.2.2=wy at *;have cm1:gS (m - 1) s:=.inr ⟨by omega,by omega⟩;have cm2:gS (m' - 1) s:=.inr ⟨by omega,by omega⟩;have s0:0 < s:=by omega
  have w1:0<=(m - 1) * s:=LH %[0|8] %[0|8];have w2:0<=(m' - 1) * s:=LH %[0|8] %[0|8];obtain⟨fi,hfi⟩:∃ fi,(if b < b' then b' else b)=fi:=⟨_,rfl⟩;obtain⟨la,hla⟩:∃ la,(if b'+(m' - 1) * s < b+(m - 1) * s then b'+(m' - 1) * s else b+(m - 1) * s)=la:=⟨_,rfl⟩
  have key:fi<=la ↔ (b<=b'+(m' - 1) * s/\b'<=b+(m - 1) * s):=by
   rw [←hfi,←hla]
   split<;>split<;>omega
  by_cases r1:(b - b') % s=0
  ·by_cases r2:fi<=la
   ·have k2:=k true ⟨λ _=>mi.mpr ⟨r1,key.mp r2⟩,λ _=>rfl⟩;clear k mi key;ac_rfl
   ·have k2:=k false ⟨(λ h=>by cases h),λ h=>absurd (key.mpr (mi.mp h).2) r2⟩;clear k mi key;ac_rfl
  ·have k2:=k false ⟨(λ h=>by cases h),λ h=>absurd (mi.mp h).1 r1⟩;clear k mi key;ac_rfl
def pcG:Int->List Sd->List Int
 | _,[]=>[]
 | r,x::X=>r::pcG (r * x.1) X
theorem uB:∀ (X:List Sd) (x:Sd),szP (X++[x])=szP X * x.1
 | [],x=>by show x.1 * 1=1 * x.1;omega
 | y::X,x=>by show y.1 * szP (X++[x])=y.1 * szP X * x.1;rw [uB X x,Lz]
theorem uN:∀ (X:List Sd) (x:Sd) (r:Int),pcG r (X++[x])=pcG r X++[r * szP X]
 | [],x,r=>by show [r]=[r * 1];rw [Mh]
 | y::X,x,r=>by
  show r::pcG (r * y.1) (X++[x])=r::(pcG (r * y.1) X++[r * (y.1 * szP X)])
  rw [uN X x,Lz]
theorem vk:∀ (X:List Sd) (x:Sd) (r:Int),axF r (X++[x])=axF r X++[(x.2.2.2.1,x.2.2.2.2 * x.2.1 * (r * szP X))]
 | [],x,r=>by show [_]=[_];rw [show szP []=1 from rfl,Mh]
 | y::X,x,r=>by
  show _::axF (r * y.1) (X++[x])=_::(axF (r * y.1) X++[(x.2.2.2.1,x.2.2.2.2 * x.2.1 * (r * (y.1 * szP X)))])
  rw [vk X x,Lz r]
theorem u6:∀ (X:List Sd) (x:Sd) (r:Int),fiF r (X++[x])=fiF r X+stF x * (r * szP X)
 | [],x,r=>by show stF x * r+0=0+stF x * (r * 1);rw [Mh];omega
 | y::X,x,r=>by
  show stF y * r+fiF (r * y.1) (X++[x])=stF y * r+fiF (r * y.1) X+stF x * (r * (y.1 * szP X))
  rw [u6 X x,Lz];omega
theorem uL:∀ (X:List Sd) (r:Int),(pcG r X).length=X.length
 | [],_=>rfl
 | x::X,r=>L6 (· + 1) (uL X (r * x.1))
theorem uM:∀ {X:List Sd}{i:Nat}(r:Int),i < X.length->(pcG r X)[i]? = some (r * szP (X.take i))
 | [],_,_,h=>by simp at h
 | x::X,0,r,_=>by show some r=some (r * 1);rw [Mh]
 | x::X,i+1,r,h=>by
  show (pcG (r * x.1) X)[i]? = some (r * (x.1 * szP (X.take i)))
  rw [uM (r * x.1) (by simpa using h),Lz]
theorem g9:∀ {X:List Sd},(∀ x∈X,eT x)->X.length<=4->1<=szP X/\szP X<=1000000000000
 | [],_,_=>by decide
 | [a],h,_=>by
  have:=(h a (by simp)).1
  show 1<=a.1 * 1/\a.1 * 1<=_;omega
 | [a,b],h,_=>by
  have h1:=(h a (by simp)).1;have h2:=(h b (by simp)).1;have u:=Ly h1.2 h2.2 %[0|8] ⋯;have l:=Ly h1.1 h2.1 ⋯ %[0|8]
  show 1<=a.1 * (b.1 * 1)/\a.1 * (b.1 * 1)<=_
  rw [Mh];omega
 | [a,b,c],h,_=>by
  have h1:=(h a (by simp)).1;have h2:=(h b (by simp)).1;have h3:=(h c (by simp)).1;have u:=Ly h2.2 h3.2 %[0|8] ⋯;have l:=Ly h2.1 h3.1 ⋯ %[0|8];have u2:=Ly h1.2 u %[0|8] ⋯;have l2:=Ly h1.1 l ⋯ %[0|8]
  show 1<=a.1 * (b.1 * (c.1 * 1))/\a.1 * (b.1 * (c.1 * 1))<=_
  rw [Mh];omega
 | [a,b,c,d],h,_=>by
  have h1:=(h a (by simp)).1;have h2:=(h b (by simp)).1;have h3:=(h c (by simp)).1;have h4:=(h d (by simp)).1;have u:=Ly h3.2 h4.2 %[0|8] ⋯;have l:=Ly h3.1 h4.1 ⋯ %[0|8];have u2:=Ly h2.2 u %[0|8] ⋯;have l2:=Ly h2.1 l ⋯ %[0|8];have u3:=Ly h1.2 u2 %[0|8] ⋯;have l3:=Ly h1.1 l2 ⋯ %[0|8]
  show 1<=a.1 * (b.1 * (c.1 * (d.1 * 1)))/\a.1 * (b.1 * (c.1 * (d.1 * 1)))<=_
  rw [Mh];omega
 | _::_::_::_::_::_,_,h=>by simp only [Lr] at h;omega
abbrev qA  (p:Addr) (q:Addr) (r:Addr) (H:Hp) (Q:VK) (E:XK):Prop:=∃ X:List Sd,gz H p (X.map λ x=>x.2.2)/\H q=some (.lst ((pcG 1 X).map V.int))/\H r=some (.lst ((X.map λ x=>x.2.1).map V.int))/\(∀ x∈X,eT x)/\X.length<=4/\∀ (u v:Addr) (H':Hp),H u=none->Ext H H'->H' v=some (.tup [.int (fiF 1 X),.ref u])->du H' u (axF 1 X)->Q (.ref v) H'
def tX  : Sp:=λ vs H Q E=>∃ (p:Addr) (q:Addr) (r:Addr),vs=[.ref p,.ref q,.ref r]/\(qA  p q r H Q E)
theorem qi  (p:Addr) (q:Addr) (r:Addr) (H:Hp) (Q:VK) (E:XK):tX  [.ref p,.ref q,.ref r] H Q E=(qA  p q r H Q E):=ni (f:=λ (p:Addr) (q:Addr) (r:Addr)=>[.ref p,.ref q,.ref r]) (λ _ _ _ _ _ _ h=>by cases h;exact⟨rfl,rfl,rfl⟩) p q r
theorem yQ  {vs:List V}{H:Hp}{Q:VK}{E:XK}(h:tX  vs H Q E):vs.length=3:=nj h λ _ _ _=>rfl
theorem mZ(T:Tx K mg t):bC P w K mg base CX0 1 t.a__law_axes t.d__law_axes ["_law_blocks", "_law_paces", "_law_steps"] tX:=by
 refine T.F__law_axes.ok aS (λ vs H Q E h=>yQ h) (λ cdv A' outer s H vs Q E hr h=>?_)
 ·obtain⟨p,q,r,rfl,X,⟨ts,hp,al⟩,hq,hr',hX,h4,k⟩:=h;refine⟨_,%[%[3,aS,%[0|2]|4],%[%[4,aS,%[(@cc _)|23]|4],%[%[Lv,rfl,%[∅,T.z_range,%[%[len,aw,%[%[0|0]|1]|6]|1],∅|41],%[5,aS|5],%[%[%[ay,%[0|0],%[5|0],(λ _ _=>rfl)|9],(%[(3),rfl,%[%[6,aS|5],%[%[7,aS|5],%[%[8,aS|5],(@aB _),∅|15],∅|15],∅|15],∅,∅|22].mono λ _ _ _ _ h=>aZ h),∅,∅,∅|37],%[%[%[cD,%[8|0],%[0|2],(ai _)|14],%[%[6,aS,%[aH,%[6|0],%[bh,%[aF,%[7|0],%[0|2]|12],%[ay,%[2|0],%[5|0],(λ _ _=>rfl)|9]|12]|12]|4]|11],(@ar _)|16],%[%[3,aS,%[aH,%[3|0],%[bh,%[6|0],%[ay,%[1|0],%[5|0],(λ _ _=>rfl)|9]|12]|12]|4],%[%[%[Li,L3,LZ,cu,%[4|0],%[%[%[%[7|0],%[%[bh,%[bh,%[8|0],%[ay,%[2|0],%[5|0],(λ _ _=>rfl)|9]|12],%[ay,%[1|0],%[5|0],(λ _ _=>rfl)|9]|12]|1]|1]|17]|1],∅,∅,∅,∅,∅|38],∅|34]|11]|10]|10]|10],(by intros;rfl)|30],%[%[%[%[%[3|0],%[%[4|0]|1]|1]|17]|13]|11]|10]|10]|10],?_⟩;rw [show start ["_law_blocks", "_law_paces", "_law_steps", "_law_first", "_law_axes_here", "_law_k", "_law_start", "_law_many", "_law_way"] [.ref p,.ref q,.ref r]=[some (.ref p),some (.ref q),some (.ref r),none,none,none,none,none,none] from rfl];have htl:ts.length=X.length:=by rw [al.1,K2]
  exists k;exists al;exists hX;ac_rfl;intro u H1 hu e1 h1;have hu0:=hu;have hp1:=e1.at hp;clear hu;ac_rfl;refine⟨by omega,by omega,?_⟩;refine kd (λ j σ H'=>∃ (ya:List V) (v5 v6 v7 v8:Option V),σ=[some (.ref p),some (.ref q),some (.ref r),some (.int (fiF 1 (X.take j))),some (.ref u),v5,v6,v7,v8]/\Ext H H'/\H' u=some (.lst ya)/\Al (λ z y=>axP z y H') (axF 1 (X.take j)) ya) ⟨[],none,none,none,none,rfl,e1,h1,Al.nil⟩ ?_ ?_
  ·clear h1 hp1;rintro j _ H2 hj ⟨ya,v5,v6,v7,v8,rfl,e2,h2,al2⟩;have hjX:j < X.length:=by have:j < ((X.length:Int)).toNat:=hj;omega
   obtain⟨x,hx⟩:∃ x,X[j]? = some x:=⟨_,KU hjX⟩;have hxm:x∈X:=My hx;have hxo:=hX () x hxm
   obtain⟨y,hy,hty⟩:∃ y,atI ts (0+(j:Int))=some (.ref y)/\H y=some (.tup [.int x.2.2.1,.int x.2.2.2.1,.int x.2.2.2.2]):=by
    have hjt:j < ts.length:=by omega
    obtain⟨qq,e,hh⟩:=(al ()).2 j x.2.2 ts[j] (by rw [Lh,hx];rfl) (KU hjt);exact⟨qq,by rw [LF,cZ (KU hjt),e],hh⟩
   have hpc:atI ((pcG 1 X).map V.int) (0+(j:Int))=some (.int (szP (X.take j))):=by
    rw [LF];exact cZ (by rw [Lh,uM 1 hjX,LR];rfl)
   have hst:atI ((X.map λ x=>x.2.1).map V.int) (0+(j:Int))=some (.int x.2.1):=by
    rw [LF];exact cZ (by rw [Lh,Lh,hx];rfl)
   have tk:X.take (j+1)=X.take j++[x]:=by rw [M3,hx];rfl
   have e1':axF 1 (X.take (j+1))=axF 1 (X.take j)++[(x.2.2.2.1,x.2.2.2.2 * x.2.1 * szP (X.take j))]:=by rw [tk,vk,LR]
   have e2':fiF 1 (X.take (j+1))=fiF 1 (X.take j)+stF x * szP (X.take j):=by rw [tk,u6,LR]
   have pb:=g9 (X:=X.take j) (λ z hz=>hX () z (List.mem_of_mem_take hz)) (by rw [LW];omega);have hyl:ya.length < sizeLine:=dY (by rw [al2.1,pw,LW];omega);have stf:stF x=if x.2.2.2.2 < 0 then x.2.2.1+(x.2.2.2.1 - 1) * x.2.1 else x.2.2.1:=rfl
   rw [e1',e2'];obtain⟨h1',h2',h3',h4',h5',_,hw⟩:=hxo;generalize szP (X.take j)=pc at *;generalize fiF 1 (X.take j)=fi at *;generalize axF 1 (X.take j)=ax at *;generalize stF x=sf at *;generalize x.2.2.1=b at *;generalize x.2.2.2.1=m at *;generalize x.2.2.2.2=wy at *;generalize x.2.1=st at *;have cm1:gS (m - 1) st:=.inr ⟨by omega,by omega⟩;have cm2:gS (b+(m - 1) * st) pc:=.inr ⟨by omega,by omega⟩;have cm3:gS b pc:=.inr ⟨by omega,by omega⟩;have cm4:gS wy st:=.inr ⟨by omega,by omega⟩;have cm5:gS (wy * st) pc:=.inr ⟨by omega,by omega⟩;have hp2:=e2.at hp;have hq2:=e2.at hq;have hr2:=e2.at hr';have ht2:=e2.at hty;exists al2;clear hj hx hxm e1' e2' tk hty k
   by_cases hneg:wy < 0
   ·rw [K7 hneg] at stf;subst stf;simp! only [↓aE];intro t3 H3 ht3 e3 h3;have h2_3:=e3.at h2;have n3:t3 ≠ u:=λ z=>by rw [z,h2] at ht3;cases ht3
    have al3:Al (λ z y=>axP z y (upd H3 u (.lst (ya++[.ref t3])))) (ax++[(m,wy * st * pc)]) (ya++[.ref t3]):=fO ((al2 ()).imp λ _ _ t=>axP.upd (axP.ext t e3) h2_3) (Al.cons' ⟨t3,rfl,by rw [ae n3];exact h3⟩ Al.nil);have e03:Ext H (upd H3 u (.lst (ya++[.ref t3]))):=(e2.trans e3).put hu0;exists al3;clear ht3 al2 h2 hp2 hq2 hr2 ht2 h3;ac_rfl;exact⟨_,_,_,_,_,rfl,e03,(by first|rfl|exact ah),al3 ()⟩
   ·rw [K5 hneg] at stf;subst stf;simp! only [↓aE];intro t3 H3 ht3 e3 h3;have h2_3:=e3.at h2;have n3:t3 ≠ u:=λ z=>by rw [z,h2] at ht3;cases ht3
    have al3:Al (λ z y=>axP z y (upd H3 u (.lst (ya++[.ref t3])))) (ax++[(m,wy * st * pc)]) (ya++[.ref t3]):=fO ((al2 ()).imp λ _ _ t=>axP.upd (axP.ext t e3) h2_3) (Al.cons' ⟨t3,rfl,by rw [ae n3];exact h3⟩ Al.nil);have e03:Ext H (upd H3 u (.lst (ya++[.ref t3]))):=(e2.trans e3).put hu0;exists al3;clear ht3 al2 h2 hp2 hq2 hr2 ht2 h3;ac_rfl;exact⟨_,_,_,_,_,rfl,e03,(by first|rfl|exact ah),al3 ()⟩
  ·rintro _ H2 ⟨ya,v5,v6,v7,v8,rfl,e2,h2,al2⟩;rw [LK,Mw] at al2 ⊢;exists al2;clear h1 hp1;ac_rfl;intro v3 H3 _ e3 h3;exact k () u v3 H3 hu0 (e2.trans e3) h3 ⟨ya,e3.at h2,(al2 ()).imp λ _ _ t=>axP.ext t e3⟩
theorem lX:∀ l:List (Int × Int),(∀ a∈l,(1:Int)<=a.1)->bq (l.map aj)=bq l/\br (l.map aj)=br l
 | [],_=>⟨rfl,rfl⟩
 | a::r,h=>by
  obtain⟨i1,i2⟩:=lX r λ b hb=>h b (KZ _ hb);have ha:=h a K1
  have e:((aj a).1 - 1) * (aj a).2=(a.1 - 1) * a.2:=by
   show (a.1 - 1) * (if a.1 > 1 then a.2 else 0)=_
   split
   ·rfl
   ·have:a.1=1:=by omega
    rw [this];simp
  rw [LG,bE,bF,bE,bF,e,i1,i2];exact⟨rfl,rfl⟩
theorem AD{α:Type}{R:α->V->Prop}{zs:List α}{ys:List V}(h:Al R zs ys):Al R zs.reverse ys.reverse:=by
 refine⟨by rw [LA,LA];exact h.1,λ i z y hz hy=>?_⟩;have hi:i < zs.length:=by have:=(K0.mp hz).1;rw [LA] at this;exact this
 rw [Mr hi] at hz;rw [Mr (by rw [h.1];exact hi),h.1] at hy;exact h.2 _ z y hz hy
theorem InA.rev:∀ {A:List (Int × Int)}{ys:List Int},InA A ys->InA A.reverse ys.reverse/\cF A.reverse ys.reverse=cF A ys
 | [],[],_=>⟨trivial,rfl⟩
 | [],_::_,h=>h.elim
 | _::_,[],h=>h.elim
 | a::A,y::ys,h=>by
  obtain⟨i1,i2⟩:=InA.rev h.2;have h1:InA [a] [y]:=⟨h.1,trivial⟩;obtain⟨j1,j2⟩:=InA.app i1 h1;rw [Mx,Mx];refine⟨j1,?_⟩;rw [j2,i2]
  show cF A ys+(a.2 * y+0)=a.2 * y+cF A ys
  omega
theorem yp{A B:List (Int × Int)}{g:Int}:fm A.reverse B.reverse g ↔ fm A B g:=by
 have one:∀ {A B:List (Int × Int)},fm A B g->fm A.reverse B.reverse g:=λ ⟨ys,zs,h1,h2,e⟩=>by
  obtain⟨i1,i2⟩:=InA.rev h1;obtain⟨j1,j2⟩:=InA.rev h2;exact⟨_,_,i1,j1,by rw [i2,j2];exact e⟩
 refine⟨λ h=>?_,one⟩;have:=one h
 rwa [List.reverse_reverse,List.reverse_reverse] at this
theorem pO:∀ (A:List (Int × Int)) (a:Int × Int),bq (A++[a])=bq A+bq [a]/\br (A++[a])=br A+br [a]
 | [],a=>by
  show bq [a]=0+bq [a]/\br [a]=0+br [a]
  omega
 | b::A,a=>by
  obtain⟨i1,i2⟩:=pO A a
  show bq (b::(A++[a]))=_/\br (b::(A++[a]))=_
  rw [bE,bF,bE,bF,i1,i2];omega
theorem pL:∀ A:List (Int × Int),bq A.reverse=bq A/\br A.reverse=br A
 | []=>⟨rfl,rfl⟩
 | a::A=>by
  obtain⟨i1,i2⟩:=pL A;obtain⟨s1,s2⟩:=pO A.reverse a;have e1:bq (a::A)=bq [a]+bq A:=by rw [bE,bE];show _=_+0+_;omega
  have e2:br (a::A)=br [a]+br A:=by rw [bF,bF];show _=_+0+_;omega
  rw [Mx,s1,s2,i1,i2,e1,e2];omega
theorem dS.snoc{x y:Sd}(h:x.1=y.1/\x.2.1=y.2.1):∀ {X Y:List Sd},dS X Y->dS (X++[x]) (Y++[y])
 | [],[],_=>⟨h,trivial⟩
 | [],_::_,h=>h.elim
 | _::_,[],h=>h.elim
 | _::_,_::_,hs=>⟨hs.1,dS.snoc h hs.2⟩
theorem dS.refl:∀ X:List Sd,dS X X
 | []=>trivial
 | _::X=>⟨⟨rfl,rfl⟩,dS.refl X⟩
theorem dS.eq:∀ {X Y:List Sd},dS X Y->szP X=szP Y/\pcG 1 X=pcG 1 Y/\(X.map λ x=>x.2.1)=(Y.map λ x=>x.2.1)/\X.length=Y.length:=by
 have pc:∀ {X Y:List Sd},dS X Y->∀ r,pcG r X=pcG r Y:=by
  intro X
  induction X with
  | nil=>intro Y h r;cases Y with
   | nil=>rfl
   | cons _ _=>exact h.elim
  | cons x X ih=>intro Y h r;cases Y with
   | nil=>exact h.elim
   | cons y Y=>show r::pcG (r * x.1) X=r::pcG (r * y.1) Y;rw [h.1.1,ih h.2]
 intro X
 induction X with
 | nil=>intro Y h;cases Y with
  | nil=>exact⟨rfl,rfl,rfl,rfl⟩
  | cons _ _=>exact h.elim
 | cons x X ih=>intro Y h;cases Y with
  | nil=>exact h.elim
  | cons y Y=>
   obtain⟨h1,h2,h3,h4⟩:=ih h.2;exact⟨by show x.1 * szP X=y.1 * szP Y;rw [h.1.1,h1],pc h 1,by rw [LG,LG,h3,h.1.2],by rw [Lr,Lr,h4]⟩
theorem lK.snoc{x y:Sd}:∀ {X Y:List Sd},dS X Y->(lK (X++[x]) (Y++[y]) ↔ lK X Y/\jm x y)
 | [],[],_=>⟨λ h=>⟨trivial,h.1⟩,λ h=>⟨h.2,trivial⟩⟩
 | [],_::_,h=>h.elim
 | _::_,[],h=>h.elim
 | _::_,_::_,hs=>by
  have ih:=lK.snoc (x:=x) (y:=y) hs.2;exact⟨λ h=>⟨⟨h.1,(ih.mp h.2).1⟩,(ih.mp h.2).2⟩,λ h=>⟨h.1.1,ih.mpr ⟨h.1.2,h.2⟩⟩⟩
structure LvI(X Y:List Sd)(b:Bool):Prop where
 okX:∀ x∈X,eT x
 okY:∀ y∈Y,eT y
 same:dS X Y
 meet:b=true ↔ lK X Y
theorem LvI.start:LvI [] [] true:=⟨(λ x h=>by cases h),(λ x h=>by cases h),trivial,λ _=>trivial,λ _=>rfl⟩
theorem LvI.snoc{X Y:List Sd}{b b':Bool}{x y:Sd}(h:LvI X Y b)(hx:eT x)(hy:eT y)(e:x.1=y.1/\x.2.1=y.2.1)(hb:b'=true ↔ jm x y):LvI (X++[x]) (Y++[y]) (b && b'):=by
 refine⟨λ z hz=>?_,λ z hz=>?_,dS.snoc e h.same,?_⟩
 ·rcases Lu.mp hz with hz|hz
  ·exact h.okX z hz
  ·rw [Ln.mp hz];exact hx
 ·rcases Lu.mp hz with hz|hz
  ·exact h.okY z hz
  ·rw [Ln.mp hz];exact hy
 ·rw [lK.snoc h.same,Nr,h.meet,hb]
theorem LvI.no{X Y:List Sd}{x y:Sd}(h:LvI X Y false)(hx:eT x)(hy:eT y)(e:x.1=y.1/\x.2.1=y.2.1):LvI (X++[x]) (Y++[y]) false:=by
 by_cases hm:jm x y
 ·exact h.snoc (b':=true) hx hy e ⟨λ _=>hm,λ _=>rfl⟩
 ·exact h.snoc (b':=false) hx hy e ⟨(λ h=>by cases h),λ h=>absurd h hm⟩
theorem LvI.views{X Y:List Sd}{b:Bool}(h:LvI X Y b)(hl:X.length<=4):b5 ((axF 1 X).reverse.map aj) ((axF 1 Y).reverse.map aj)/\(b=true ↔ fm (axF 1 X).reverse (axF 1 Y).reverse (fiF 1 Y - fiF 1 X)):=by
 obtain⟨_,_,_,e4⟩:=h.same.eq;have hs:=g9 h.okX hl;have nv:=nY (A:=[]) (B:=[]) (r:=1) ⋯ h.okX h.okY h.same b5.nil ⋯ (by show 0+X.length<=8;omega) (by show 0+Y.length<=8;omega) %[0|8];refine⟨by rw [Np,Np];exact nv.rev,?_⟩;rw [h.meet,←uR (r:=1) ⋯ h.okX h.okY h.same,yp];exact⟨λ ⟨ys,zs,i1,i2,e⟩=>⟨ys,zs,i1,i2,by omega⟩,λ ⟨ys,zs,i1,i2,e⟩=>⟨ys,zs,i1,i2,by omega⟩⟩
theorem uy{X:List Sd}(h:∀ x∈X,eT x)(hl:X.length<=4):uw (szP X) (fiF 1 X) (axF 1 X).reverse/\(∀ a∈(axF 1 X).reverse,-100000000000000000<=a.2/\a.2<=100000000000000000):=by
 have hs:=g9 h hl;obtain⟨s1,s2⟩:=uD (r:=1) ⋯ h
 have axs:∀ {Z:List Sd} {r:Int},1<=r->(∀ x∈Z,eT x)->r * szP Z<=1000000000000->∀ a∈axF r Z,(1<=a.1/\a.1<=1000)/\-100000000000000000<=a.2/\a.2<=100000000000000000:=by
  intro Z
  induction Z with
  | nil=>intro r _ _ _ a ha;cases ha
  | cons x Z ih=>
   intro r hr hz hle a ha;have hx:=hz x K1;have hZ:∀ y∈Z,eT y:=λ y hy=>hz y (KZ _ hy);have sp:=nE hZ;have hr1:1<=r * x.1:=by have:=Ly hr hx.1.1 ⋯ %[0|8];omega
   have hle':r * x.1 * szP Z<=1000000000000:=by rw [Lz];exact hle
   rcases Ls.mp ha with rfl|ha
   ·obtain⟨h1,h2,h3,h4,h5,h6,hw⟩:=hx;have mm:=Lc (show 1<=x.2.1 by omega) (show 0<=x.2.2.2.1 - 1 by omega);have rn:r<=r * x.1:=by have:=Lc h1.1 (show 0<=r by omega);omega
    have rn2:r * x.1<=r * x.1 * szP Z:=by have:=Lc sp (show 0<=r * x.1 by omega);omega
    have u1:=LV h2.2 (show 0<=r by omega);have u0:=LH (show 0<=x.2.1 by omega) (show 0<=r by omega);refine⟨⟨h4,by show x.2.2.2.1<=1000;omega⟩,?_⟩
    show -100000000000000000<=x.2.2.2.2 * x.2.1 * r/\x.2.2.2.2 * x.2.1 * r<=100000000000000000
    rcases hw with e|e
    ·rw [e,LR];omega
    ·rw [e,L8,Nk];omega
   ·exact ih hr1 hZ hle' a ha
 have ax:=axs (r:=1) ⋯ h %[0|8];obtain⟨r1,r2⟩:=pL (axF 1 X);have oA:∀ a∈(axF 1 X).reverse,(1:Int)<=a.1:=λ a ha=>(ax a (Mf.mp ha)).1.1;obtain⟨k1,k2⟩:=lX (axF 1 X).reverse oA;refine⟨⟨⟨by rw [LA,pw];omega,λ a ha=>by have:=(ax a (Mf.mp ha)).1;omega⟩,by omega,by omega,by rw [k1,r1];omega,by rw [k2,r2];omega⟩,λ a ha=>(ax a (Mf.mp ha)).2⟩
theorem gG{H:Hp}{p b:Addr}{zs:List (List Int)}{xs:List V}{o:HO}(h:cJ H p zs)(hb:H b=some (.lst xs))(hne:p ≠ b):cJ (upd H b o) p zs:=by
 obtain⟨ys,h1,al⟩:=h;exact⟨ys,by rw [ae hne];exact h1,al.imp λ _ _ ⟨q,e,hq⟩=>⟨q,e,by rw [ae (λ z=>by rw [z,hb] at hq;cases hq)];exact hq⟩⟩
theorem lY:∀ {R:List (Int × Int)},(∀ a∈R,(1:Int)<=a.1)->InA R (R.map λ _=>0)
 | [],_=>trivial
 | a::R,h=>⟨⟨Lp _,by have:=h a K1;show (0:Int) < a.1;omega⟩,lY λ b hb=>h b (KZ _ hb)⟩
theorem qo{xs:List V}{y:V}(h:xs[xs.length - 1]? = some y)(hl:0 < xs.length):atI xs (-1)=some y:=by
 unfold atI ixN;rw [if_neg %[0|8],if_pos %[0|8],show (-1+(xs.length:Int)).toNat=xs.length - 1 by omega];exact h
theorem ql(xs:List V)(y:V):atI (xs++[y]) (-1)=some y:=by
 unfold atI ixN;rw [if_neg %[0|8],if_pos (by rw [length_append,length_singleton];omega),show (-1+((xs++[y]).length:Int)).toNat=xs.length by rw [length_append,length_singleton];omega]
 show (xs++[y])[xs.length]? = some y
 rw [Lk (K3 _),M5];rfl
def BkA(H:Hp)(X:List Sd)(u:List V):Prop:=Al (λ z y=>trP z y H) (X.map λ x=>x.2.2) u
theorem BkA.ext{H H':Hp}{X:List Sd}{u:List V}(h:BkA H X u)(e:Ext H H'):BkA H' X u:=Al.imp h λ _ _ t=>trP.ext t e
theorem BkA.upd{H:Hp}{X:List Sd}{u xs:List V}{p:Addr}{o:HO}(h:BkA H X u)(hp:H p=some (.lst xs)):BkA (upd H p o) X u:=Al.imp h λ _ _ t=>trP.upd t hp
theorem BkA.snoc{H:Hp}{X:List Sd}{u:List V}{x:Sd}{r:Addr}(h:BkA H X u)(hr:H r=some (.tup [.int x.2.2.1,.int x.2.2.2.1,.int x.2.2.2.2])):BkA H (X++[x]) (u++[.ref r]):=by
 unfold BkA;rw [map_append];exact fO h (Al.cons' ⟨r,rfl,hr⟩ Al.nil)
def KO(X Y:List Sd)(sz st:Int)(j:Nat)(Z0 Z1:List Sd):Prop:=(j=0/\Z0=X/\Z1=Y)\/(j=1/\Z1=Y/\∃ x,Z0=X++[x]/\eT x/\x.1=sz/\x.2.1=st)\/(j=2/\∃ x y,Z0=X++[x]/\Z1=Y++[y]/\eT x/\eT y/\(x.1=sz/\x.2.1=st)/\y.1=sz/\y.2.1=st)
abbrev DG(K:PySem.W.Frag)(a:Addr)(H:Hp)(Q:VK)(E:XK):Prop:=∃ ns:List Int,SqL K H a (ns.map V.int)/\ns.length<=63/\∀ H',Q (.bl true) H'
def sV(K:W.Frag):Sp:=λ vs H Q E=>∃ (a:Addr),vs=[.ref a]/\(DG K a H Q E)
theorem Dd(K:W.Frag){vs:List V}{H:Hp}{Q:VK}{E:XK}(h:sV K vs H Q E):vs.length=1:=sO h λ _=>rfl
theorem Fc(T:Tx K mg t):bC P w K mg base CX0 9 t.a_law t.d_law ["_law_script"] (sV K):=by
 refine T.F_law.ok dw (λ vs H Q E h=>Dd _ h) (λ cdv A' outer s H vs Q E hr h=>?_)
 ·obtain⟨a,rfl,ns,hS,hl,kk⟩:=h;have G__law_draw:=%[mX|46] a ns;have G__law_block:=%[k6|46];have G__law_meet:=%[mV|46];have G__law_axes:=%[mZ|46];have G_View___init__:=%[gD|46];have G__law_terms:=%[fG|46];have G__law_met:=%[iI|46];have G_shares:=%[vJ|46];have G_is_apart:=%[ow|46];have G__law_right:=%[kY|46];refine⟨_,%[%[1,dw,%[(@cc _)|23]|4],%[%[2,dw,%[(@cc _)|23]|4],%[%[3,dw,%[%[%[(@cc _)|23],%[%[(@cc _)|23]|1]|1]|23]|4],%[%[4,dw,%[0|2]|4],%[%[5,dw,(@cC _ _ _ _)|4],%[%[Lv,rfl,%[∅,T.z_range,%[%[aH,%[0|2],%[_law_draw,%[%[0|0],%[%[0|2],%[%[0|2]|1]|1]|1]|3]|12]|1],∅|41],%[6,dw|5],%[%[7,dw,%[aH,%[0|2],%[_law_draw,%[%[0|0],%[%[aH,%[0|2],%[bh,%[0|2],%[6|0]|12]|12],%[%[ay,%[%[%[0|2],%[%[0|2]|1]|1]|23],%[_law_draw,%[%[0|0],%[%[0|2],%[%[0|2]|1]|1]|1]|3],(λ _ _=>rfl)|9]|1]|1]|1]|3]|12]|4],%[%[%[Li,L3,LZ,cu,%[2|0],%[%[aH,%[0|2],%[fx,%[_law_draw,%[%[0|0],%[%[aH,%[0|2],%[bh,%[0|2],%[6|0]|12]|12],%[%[0|2]|1]|1]|1]|3],%[aH,%[0|2],%[_law_draw,%[%[0|0],%[%[0|2],%[%[0|2]|1]|1]|1]|3]|12]|12]|12]|1],∅,∅,∅,∅,∅|38],∅|34],%[%[%[Li,L3,LZ,cu,%[1|0],%[%[4|0]|1],∅,∅,∅,∅,∅|38],∅|34],%[%[4,dw,%[bh,%[4|0],%[7|0]|12]|4],%[%[Lv,rfl,%[∅,T.z_range,%[%[0|2]|1],∅|41],%[8,dw|5],%[%[%[Li,L3,LZ,cu,%[ay,%[3|0],%[8|0],(λ _ _=>rfl)|9],%[%[_law_block,%[%[_law_draw,%[%[0|0],%[%[aH,%[aH,%[0|2],%[8|0]|12],%[bh,%[0|2],%[6|0]|12]|12],%[%[Aq,%[0|2],%[0|2]|12]|1]|1]|1]|3],%[%[7|0],%[%[ay,%[2|0],(@qJ _ _ _ _ _ _ fL %[0|2]),(λ _ _=>rfl)|9]|1]|1]|1]|3]|1],∅,∅,∅,∅,∅|38],∅|34]|11],(by intros;rfl)|30],%[%[5,dw,%[%[5|0],%[%[_law_meet,%[%[ay,%[ay,%[3|0],%[0|2],(λ _ _=>rfl)|9],(@qJ _ _ _ _ _ _ fL %[0|2]),(λ _ _=>rfl)|9],%[%[ay,%[ay,%[3|0],%[0|2],(λ _ _=>rfl)|9],(@qJ _ _ _ _ _ _ fL %[0|2]),(λ _ _=>rfl)|9],%[%[ay,%[2|0],(@qJ _ _ _ _ _ _ fL %[0|2]),(λ _ _=>rfl)|9]|1]|1]|1]|3]|33]|31]|4]|11]|10]|10]|10]|10]|10],(by intros;rfl)|30],%[%[%[_law_axes,%[%[ay,%[3|0],%[0|2],(λ _ _=>rfl)|9],%[%[1|0],%[%[2|0]|1]|1]|1]|3],(%[(2),rfl,%[%[9,dw|5],%[%[10,dw|5],(@aB _),∅|15],∅|15],∅,∅|22].mono λ _ _ _ _ h=>aZ h),∅,∅,∅|37],%[%[%[_law_axes,%[%[ay,%[3|0],%[0|2],(λ _ _=>rfl)|9],%[%[1|0],%[%[2|0]|1]|1]|1]|3],(%[(2),rfl,%[%[11,dw|5],%[%[12,dw|5],(@aB _),∅|15],∅|15],∅,∅|22].mono λ _ _ _ _ h=>aZ h),∅,∅,∅|37],%[%[13,dw,(@pY _ _ _ _ _ _ _ _ _ _ _ _ _ _ _ _ _ T.mk_View G_View___init__ (hr.mono ⋯) ∅ T.m_View T.b_View___init__ .nil sX %[%[4|0],%[%[9|0],%[(@js _ _ _ _ _ _ _ rfl ∅ T.z_list ∅ T.z_reversed %[%[10|0]|1] ∅ ∅ ∅)|1]|1]|1] ⋯ ∅ ∅)|4],%[%[14,dw,(@pY _ _ _ _ _ _ _ _ _ _ _ _ _ _ _ _ _ T.mk_View G_View___init__ (hr.mono ⋯) ∅ T.m_View T.b_View___init__ .nil sX %[%[4|0],%[%[11|0],%[(@js _ _ _ _ _ _ _ rfl ∅ T.z_list ∅ T.z_reversed %[%[12|0]|1] ∅ ∅ ∅)|1]|1]|1] ⋯ ∅ ∅)|4],%[%[%[Li,Nc,Nb,gb,%[10|0],∅,∅|43],∅|34],%[%[%[Li,Nc,Nb,gb,%[12|0],∅,∅|43],∅|34],%[%[15,dw,%[aH,%[0|2],%[bh,%[0|2],%[len,aw,%[%[_law_terms,%[%[10|0],%[%[12|0]|1]|1]|3]|1]|6]|12]|12]|4],%[%[16,dw,%[shares,%[%[13|0],%[%[14|0],%[%[15|0]|1]|1]|1]|3]|4],%[%[%[%[%[_law_right,%[%[16|0],%[%[10|0],%[%[12|0],%[%[aF,%[11|0],%[9|0]|12],%[%[5|0]|1]|1]|1]|1]|1]|3],(by intros;rfl)|19]|20],%[%[(@cC _ _ _ _)|13]|11],(@ar _)|16],%[%[(PW.pt %[%[%[%[5|0],(by intros;rfl)|19]|20],(@dz _ _ _ _ %[vI,%[is_apart,%[%[13|0],%[%[14|0],%[%[ay,%[16|0],%[0|2],(λ _ _=>rfl)|9]|1]|1]|1]|3],(@cC _ _ _ _),(ai _)|14])|36]),%[%[(@cC _ _ _ _)|13]|11],(@ar _)|16],%[%[%[%[%[_law_met,%[%[shares,%[%[13|0],%[%[13|0],%[%[aH,%[15|0],%[0|2]|12]|1]|1]|1]|3],%[%[10|0],%[%[10|0],%[%[0|2]|1]|1]|1]|1]|3],(by intros;rfl)|19]|20],%[%[(@cC _ _ _ _)|13]|11],(@ar _)|16],%[%[%[_law_right,%[%[shares,%[%[14|0],%[%[13|0],%[%[15|0]|1]|1]|1]|3],%[%[12|0],%[%[10|0],%[%[aF,%[9|0],%[11|0]|12],%[%[5|0]|1]|1]|1]|1]|1]|3]|13]|11]|10]|10]|10]|10]|10]|10]|10]|10]|10]|10]|10]|10]|10]|10]|10]|10]|10],?_⟩;rw [show start ["_law_script", "_law_paces", "_law_steps", "_law_blocks", "_law_room", "_law_meet_here", "_law_k", "_law_size", "_law_j", "_law_first", "_law_one", "_law_second", "_law_other", "_law_here", "_law_there", "_law_most", "_law_found"] [.ref a]=[some (.ref a),none,none,none,none,none,none,none,none,none,none,none,none,none,none,none,none] from rfl];clear G__law_draw G__law_block G__law_meet G__law_axes G_View___init__ G__law_terms G__law_met G_shares G_is_apart G__law_right;exists kk;ac_rfl;intro rp H1 hrp e1 h1;ac_rfl;intro rs H2 hrs e2 h2;have h1_2:=e2.at h1;ac_rfl;intro q0 H3 hq0 e3 h3;have h1_3:=e3.at h1_2;have h2_3:=e3.at h2;ac_rfl;intro q1 H4 hq1 e4 h4;have h1_4:=e4.at h1_3;have h2_4:=e4.at h2_3;have h3_4:=e4.at h3;ac_rfl;intro rb H5 hrb e5 h5;have h1_5:=e5.at h1_4;have h2_5:=e5.at h2_4;have h3_5:=e5.at h3_4;have h4_5:=e5.at h4;have nps:rp ≠ rs:=λ z=>by rw [z,hrs] at h1;cases h1
  have np0:rp ≠ q0:=λ z=>by rw [z,hq0] at h1_2;cases h1_2
  have np1:rp ≠ q1:=λ z=>by rw [z,hq1] at h1_3;cases h1_3
  have npb:rp ≠ rb:=λ z=>by rw [z,hrb] at h1_4;cases h1_4
  have ns0:rs ≠ q0:=λ z=>by rw [z,hq0] at h2;cases h2
  have ns1:rs ≠ q1:=λ z=>by rw [z,hq1] at h2_3;cases h2_3
  have nsb:rs ≠ rb:=λ z=>by rw [z,hrb] at h2_4;cases h2_4
  have n01:q0 ≠ q1:=λ z=>by rw [z,hq1] at h3;cases h3
  have n0b:q0 ≠ rb:=λ z=>by rw [z,hrb] at h3_4;cases h3_4
  have n1b:q1 ≠ rb:=λ z=>by rw [z,hrb] at h4;cases h4
  have frp:H rp=none:=hrp;have frs:H rs=none:=e1.free hrs;have f0:H q0=none:=(e1.trans e2).free hq0;have f1:H q1=none:=(e1.trans (e2.trans e3)).free hq1;have e05:=e1.trans (e2.trans (e3.trans (e4.trans e5)));have hS5:=e05.2 K a _ hS;clear hrp hrs hq0 hq1 hrb h1 h1_2 h1_3 h1_4 h2 h2_3 h2_4 h3 h3_4 h4 e1 e2 e3 e4 e5;ac_rfl;rw [dB];refine⟨hS5,hl,⟨by decide,by decide⟩,by decide,λ n n0 n1=>?_⟩;ac_rfl;refine⟨by omega,by omega,?_⟩;refine kd (λ i σ H'=>∃ (X Y:List Sd) (u0 u1:List V) (b:Bool) (v6 v7 v8:Option V),σ=[some (.ref a),some (.ref rp),some (.ref rs),some (.ref rb),some (.int (szP X)),some (.bl b),v6,v7,v8,none,none,none,none,none,none,none,none]/\Ext H H'/\H' rp=some (.lst ((pcG 1 X).map V.int))/\H' rs=some (.lst ((X.map λ x=>x.2.1).map V.int))/\H' rb=some (.lst [.ref q0,.ref q1])/\H' q0=some (.lst u0)/\BkA H' X u0/\H' q1=some (.lst u1)/\BkA H' Y u1/\LvI X Y b/\X.length=i) ⟨[],[],[],[],true,none,none,none,rfl,e05,h1_5,h2_5,h5,h3_5,Al.nil,h4_5,Al.nil,LvI.start,rfl⟩ ?_ ?_
  ·clear h1_5 h2_5 h3_5 h4_5 h5 hS5 e05;rintro i _ H6 hi ⟨X,Y,u0,u1,b,v6,v7,v8,rfl,e6,hp6,hs6,hb6,h06,a0,h16,a1,hI,hXl⟩;have hi4:i < 4:=by have:i < (1+n).toNat:=hi;omega
   have hS6:=e6.2 K a _ hS;have szb:=g9 hI.okX %[0|8];have l0:u0.length=i:=by rw [a0.1,K2,hXl]
   have l1:u1.length=i:=by rw [a1.1,K2,←hI.same.eq.2.2.2,hXl]
   exists a0;exists a1;exists hI;exists hXl;clear hi kk;simp! only [↓aE];intro l7 H7 _ e7 h7;have hS7:=e7.2 K a _ hS6;have hp7:=e7.at hp6;have hs7:=e7.at hs6;have hb7:=e7.at hb6;have h07:=e7.at h06;have h17:=e7.at h16;have a07:=λ (_:Unit)=>(a0 ()).ext e7;have a17:=λ (_:Unit)=>(a1 ()).ext e7;have e07:=e6.trans e7;clear hS6 hp6 hs6 hb6 h06 h16 a0 a1 e6 e7;ac_rfl;rw [dB];refine⟨hS7,hl,⟨by decide,by decide⟩,by decide,λ d d0 d1=>?_⟩;ac_rfl;refine vG (λ v=>∃ z:Int,v=.int z/\1<=z/\z<=1000) d0 (by simpa using d1) (λ v hv=>?_) λ v hv=>?_
   ·simp only [Ls,LI,Mo] at hv
    rcases hv with rfl|rfl
    ·exact⟨_,rfl,by decide,by decide⟩
    ·exact⟨_,rfl,by decide,by decide⟩
   obtain⟨z,rfl,z0,z1⟩:=hv;clear h7;ac_rfl;rw [dB];refine⟨hS7,hl,⟨by omega,by omega⟩,by omega,λ z' y0 y1=>?_⟩;ac_rfl;obtain⟨sz,hsz⟩:∃ sz,1+z'=sz:=⟨_,rfl⟩;have szo:1<=sz/\sz<=1000:=by omega
   rw [hsz];clear hsz y0 y1 z0 z1;rw [dB];refine⟨hS7,hl,⟨by omega,by omega⟩,by decide,λ d4 d40 d41=>?_⟩;ac_rfl;rw [dB];refine⟨hS7,hl,⟨by decide,by decide⟩,by decide,λ d3 d30 d31=>?_⟩;obtain⟨st,hst⟩:∃ st,1+d4.fdiv (1+d3)=st:=⟨_,rfl⟩
   have sto:1<=st/\st<=4:=by
    rw [Me _ %[0|8]] at hst;have hd:d3=0\/d3=1\/d3=2:=by omega
    rcases hd with rfl|rfl|rfl<;>omega
   have hdv:nA d4 (1+d3):=⟨by omega,by omega⟩;have cmr:gS (szP X) sz:=.inl ⟨by omega,by omega⟩;have ll1:((X.map λ x=>x.2.1).map V.int).length < sizeLine:=dY (by rw [K2,K2,hXl ()];omega);have ll2:((pcG 1 X).map V.int).length < sizeLine:=dY (by rw [K2,uL,hXl ()];omega);generalize hT:(X.map λ x=>x.2.1).map V.int=T1 at *;generalize hC:(pcG 1 X).map V.int=C1 at *;exists hT;exists hC;have p8:upd H7 rs (.lst (T1++[.int st])) rp=some (.lst C1):=by rw [ae nps];exact hp7
   clear d40 d41 d30 d31;ac_rfl;have s8:upd (upd H7 rs (.lst (T1++[.int st]))) rp (.lst (C1++[.int (szP X)])) rs=some (.lst (T1++[.int st])):=by rw [ae (Lw nps)];exact ah
   have p8':upd (upd H7 rs (.lst (T1++[.int st]))) rp (.lst (C1++[.int (szP X)])) rp=some (.lst (C1++[.int (szP X)])):=ah;have b8:upd (upd H7 rs (.lst (T1++[.int st]))) rp (.lst (C1++[.int (szP X)])) rb=some (.lst [.ref q0,.ref q1]):=by rw [ae (Lw npb),ae (Lw nsb)];exact hb7
   have g08:upd (upd H7 rs (.lst (T1++[.int st]))) rp (.lst (C1++[.int (szP X)])) q0=some (.lst u0):=by rw [ae (Lw np0),ae (Lw ns0)];exact h07
   have g18:upd (upd H7 rs (.lst (T1++[.int st]))) rp (.lst (C1++[.int (szP X)])) q1=some (.lst u1):=by rw [ae (Lw np1),ae (Lw ns1)];exact h17
   have a08:BkA (upd (upd H7 rs (.lst (T1++[.int st]))) rp (.lst (C1++[.int (szP X)]))) X u0:=((a07 ()).upd hs7).upd p8;have a18:BkA (upd (upd H7 rs (.lst (T1++[.int st]))) rp (.lst (C1++[.int (szP X)]))) Y u1:=((a17 ()).upd hs7).upd p8;have e08:Ext H (upd (upd H7 rs (.lst (T1++[.int st]))) rp (.lst (C1++[.int (szP X)]))):=(e07.put frs).put frp;generalize upd (upd H7 rs (.lst (T1++[.int st]))) rp (.lst (C1++[.int (szP X)]))=H8 at *;clear p8 hs7 hp7 hb7 h07 h17 a07 a17 e07 hS7 hst hdv cmr ll1 ll2 d0 d1;refine kd (λ j σ H'=>∃ (Z0 Z1:List Sd) (w0 w1:List V) (v8:Option V),σ=[some (.ref a),some (.ref rp),some (.ref rs),some (.ref rb),some (.int (szP X * sz)),some (.bl b),some (.int (0+(i:Int))),some (.int sz),v8,none,none,none,none,none,none,none,none]/\Ext H H'/\H' rp=some (.lst (C1++[.int (szP X)]))/\H' rs=some (.lst (T1++[.int st]))/\H' rb=some (.lst [.ref q0,.ref q1])/\H' q0=some (.lst w0)/\BkA H' Z0 w0/\H' q1=some (.lst w1)/\BkA H' Z1 w1/\w0.length<=5/\w1.length<=5/\KO X Y sz st j Z0 Z1) ⟨X,Y,u0,u1,_,rfl,e08,p8',s8,b8,g08,a08,g18,a18,by omega,by omega,.inl ⟨rfl,rfl,rfl⟩⟩ ?_ ?_
   ·clear s8 p8' b8 g08 g18 a08 a18 e08;rintro j _ H9 hj ⟨Z0,Z1,w0,w1,v8,rfl,e9,hp9,hs9,hb9,h09,a09,h19,a19,k0,k1,hin⟩;have hS9:=e9.2 K a _ hS;have ats:=ql T1 (.int st);have lw0:w0.length < sizeLine:=dY %[0|8];have lw1:w1.length < sizeLine:=dY %[0|8];exists a09;exists a19
    rcases hin with ⟨rfl,rfl,rfl⟩|⟨rfl,rfl,x,rfl,hx⟩|⟨rfl,_⟩
    ·clear hj;simp! only [↓aE];rw [dB];refine⟨hS9,hl,⟨by omega,by omega⟩,by decide,λ c c0 c1=>?_⟩;ac_rfl;rw [jC];refine⟨c0,szo,sto,λ b' m' w' r10 H10 e10 h10 ok=>?_⟩;have hl0:w0.length<=4:=by have:=(a09 ()).1;rw [K2,hXl ()] at this;omega
     have h09':=e10.at h09;have h19':=e10.at h19;have hp9':=e10.at hp9;have hs9':=e10.at hs9;have hb9':=e10.at hb9;have aN:BkA (upd H10 q0 (.lst (w0++[.ref r10]))) (Z0++[(sz,st,b',m',w')]) (w0++[.ref r10]):=(((a09 ()).ext e10).snoc (x:=(sz,st,b',m',w')) h10).upd h09';have aM:BkA (upd H10 q0 (.lst (w0++[.ref r10]))) Z1 w1:=((a19 ()).ext e10).upd h09';have eN:Ext H (upd H10 q0 (.lst (w0++[.ref r10]))):=(e9.trans e10).put f0;have pN:upd H10 q0 (.lst (w0++[.ref r10])) rp=some (.lst (C1++[.int (szP Z0)])):=by rw [ae np0];exact hp9'
     have sN:upd H10 q0 (.lst (w0++[.ref r10])) rs=some (.lst (T1++[.int st])):=by rw [ae ns0];exact hs9'
     have bN:upd H10 q0 (.lst (w0++[.ref r10])) rb=some (.lst [.ref q0,.ref q1]):=by rw [ae (Lw n0b)];exact hb9'
     have qN:upd H10 q0 (.lst (w0++[.ref r10])) q1=some (.lst w1):=by rw [ae (Lw n01)];exact h19'
     exists aN;exists aM;exists ok;clear a09 a19 h09 h19 hp9 hs9 hb9 h10 hp9' hs9' hb9' h19' hS9;ac_rfl;exact⟨_,_,_,w1,_,rfl,eN,(by first|rfl|exact ah),aN (),(by first|rfl|exact qN),aM (),(by rw [K4,K9];omega),k1,.inr (.inl ⟨rfl,rfl,_,rfl,ok (),rfl,rfl⟩)⟩
    ·exists hx;clear hj;simp! only [↓aE];rw [dB];refine⟨hS9,hl,⟨by omega,by omega⟩,by decide,λ c c0 c1=>?_⟩;ac_rfl;rw [jC];refine⟨c0,szo,sto,λ b' m' w' r10 H10 e10 h10 ok=>?_⟩;have hl1:w1.length<=4:=by have h1:=(a19 ()).1;rw [K2] at h1;have h2:=(hI ()).same.eq.2.2.2;have h3:=hXl ();omega
     have h09':=e10.at h09;have h19':=e10.at h19;have hp9':=e10.at hp9;have hs9':=e10.at hs9;have hb9':=e10.at hb9;have aN:BkA (upd H10 q1 (.lst (w1++[.ref r10]))) (Z1++[(sz,st,b',m',w')]) (w1++[.ref r10]):=(((a19 ()).ext e10).snoc (x:=(sz,st,b',m',w')) h10).upd h19';have aM:BkA (upd H10 q1 (.lst (w1++[.ref r10]))) (X++[x]) w0:=((a09 ()).ext e10).upd h19';have eN:Ext H (upd H10 q1 (.lst (w1++[.ref r10]))):=(e9.trans e10).put f1;have pN:upd H10 q1 (.lst (w1++[.ref r10])) rp=some (.lst (C1++[.int (szP X)])):=by rw [ae np1];exact hp9'
     have sN:upd H10 q1 (.lst (w1++[.ref r10])) rs=some (.lst (T1++[.int st])):=by rw [ae ns1];exact hs9'
     have bN:upd H10 q1 (.lst (w1++[.ref r10])) rb=some (.lst [.ref q0,.ref q1]):=by rw [ae (Lw n1b)];exact hb9'
     have qN:upd H10 q1 (.lst (w1++[.ref r10])) q0=some (.lst w0):=by rw [ae n01];exact h09'
     exists aN;exists aM;exists ok;clear a09 a19 h09 h19 hp9 hs9 hb9 h10 hp9' hs9' hb9' h09' hS9;ac_rfl;exact⟨_,_,w0,_,_,rfl,eN,(by first|rfl|exact qN),aM (),(by first|rfl|exact ah),aN (),k0,(by rw [K4,K9];omega),.inr (.inr ⟨rfl,x,_,rfl,rfl,(hx ()).1,ok (),(hx ()).2,rfl,rfl⟩)⟩
    ·exact absurd hj ⋯
   ·rintro _ H9 ⟨Z0,Z1,w0,w1,v8,rfl,e9,hp9,hs9,hb9,h09,a09,h19,a19,k0,k1,hin⟩
    rcases hin with ⟨h,_⟩|⟨h,_⟩|⟨_,x,y,rfl,rfl,hx,hy,ex,ey⟩
    ·cases h
    ·cases h
    have exy:x.1=y.1/\x.2.1=y.2.1:=⟨ex.1.trans ey.1.symm,ex.2.trans ey.2.symm⟩
    obtain⟨lx,hlx,htx⟩:∃ lx,w0[w0.length - 1]? = some (.ref lx)/\H9 lx=some (.tup [.int x.2.2.1,.int x.2.2.2.1,.int x.2.2.2.2]):=by
     have hl0:w0.length=X.length+1:=by have:=a09.1;rw [K2,K4,K9] at this;exact this
     have hg:w0[X.length]? = some (w0[X.length]' %[0|8]):=KU _;obtain⟨qq,e,hh⟩:=a09.2 X.length x.2.2 _ (by rw [Mb,Lk (by rw [K2];exact K3 _),K2,M5];rfl) hg;exact⟨qq,by rw [hl0,MP,hg,e],hh⟩
    obtain⟨ly,hly,hty⟩:∃ ly,w1[w1.length - 1]? = some (.ref ly)/\H9 ly=some (.tup [.int y.2.2.1,.int y.2.2.2.1,.int y.2.2.2.2]):=by
     have hl0:w1.length=Y.length+1:=by have:=a19.1;rw [K2,K4,K9] at this;exact this
     have hg:w1[Y.length]? = some (w1[Y.length]' %[0|8]):=KU _;obtain⟨qq,e,hh⟩:=a19.2 Y.length y.2.2 _ (by rw [Mb,Lk (by rw [K2];exact K3 _),K2,M5];rfl) hg;exact⟨qq,by rw [hl0,MP,hg,e],hh⟩
    have atx:atI w0 (-1)=some (.ref lx):=qo hlx (by have:=a09.1;rw [K2,K4,K9] at this;omega);have aty:atI w1 (-1)=some (.ref ly):=qo hly (by have:=a19.1;rw [K2,K4,K9] at this;omega);have ats:=ql T1 (.int st);have fC:(pcG 1 (X++[x])).map V.int=C1++[.int (szP X)]:=by rw [uN,Mb,hC (),LR];rfl
    have fT:((X++[x]).map λ x=>x.2.1).map V.int=T1++[.int st]:=by rw [Mb,Mb,hT ()];show _++[V.int x.2.1]=_;rw [ex.2]
    have fZ:szP (X++[x])=szP X * sz:=by rw [uB,ex.1]
    exists fC;exists fT;exists fZ;exists a09;exists a19;exists hx;exists hy;exists exy;exists ex;exists ey;clear hlx hly hT hC s8 p8' b8 g08 g18 a08 a18 e08
    cases b with
    | false=>
     have fin:=λ (_:Unit)=>(hI ()).no (hx ()) (hy ()) (exy ());clear atx aty ats;ac_rfl;exact⟨X++[x],Y++[y],w0,w1,false,_,_,_,by rw [fZ ()],e9,by rw [fC ()],by rw [fT ()],(by first|rfl|exact h09),a09 (),(by first|rfl|exact h19),a19 (),fin (),by rw [K4,K9,hXl ()]⟩
    | true=>
     ac_rfl;rw [xi];refine⟨x,y,hx (),hy (),(ex ()).2,(ey ()).2,htx,hty,λ b' hb'=>?_⟩;have fin:=λ (_:Unit)=>(hI ()).snoc (hx ()) (hy ()) (exy ()) hb';clear atx aty ats;ac_rfl;exact⟨X++[x],Y++[y],w0,w1,b',_,_,_,by rw [fZ ()],e9,by rw [fC ()],by rw [fT ()],(by first|rfl|exact h09),a09 (),(by first|rfl|exact h19),a19 (),(by have:=fin ();rw [Bool.true_and] at this;exact this),by rw [K4,K9,hXl ()]⟩
  ·rintro _ H6 ⟨X,Y,u0,u1,b,v6,v7,v8,rfl,e6,hp6,hs6,hb6,h06,a0,h16,a1,hI,hXl⟩;have hX4:X.length<=4:=by omega
   obtain⟨q1',q2',q3',q4'⟩:=hI.same.eq;have hY4:Y.length<=4:=by omega
   have hv:=hI.views hX4;obtain⟨vx1,vx2⟩:=uy hI.okX hX4;obtain⟨vy1,vy2⟩:=uy hI.okY hY4;rw [←q1'] at vy1
   have hvs:b5 ((axF 1 X).reverse.map aj) ((axF 1 X).reverse.map aj):=by
    have hs:=g9 hI.okX hX4;have nv:=nY (A:=[]) (B:=[]) (r:=1) ⋯ hI.okX hI.okX (dS.refl X) b5.nil ⋯ (by show 0+X.length<=8;omega) (by show 0+X.length<=8;omega) %[0|8];rw [Np];exact nv.rev
   have hRl:(axF 1 X).reverse.length<=4:=by rw [LA,pw];exact hX4
   have okX:=hI.okX;have okY:=hI.okY;exists okX;exists okY;exists a0;exists a1;exists vx2;exists vy2;exists q2';exists q3';clear h1_5 h2_5 h3_5 h4_5 h5 hS5 e05 hI hXl q1' q4' nps np0 np1 npb ns0 ns1 nsb n01 n0b n1b frp frs f0 f1 hS e6;ac_rfl;rw [qi];refine⟨X,⟨u0,h06,a0 ()⟩,hp6,hs6,okX (),hX4,λ r1 t1 H7 hr1 e7 h7 pA=>?_⟩;have hp7:=e7.at hp6;have hs7:=e7.at hs6;have hb7:=e7.at hb6;have h17:=e7.at h16;have a17:=λ (_:Unit)=>(a1 ()).ext e7;obtain⟨ya,hya,alA⟩:=pA;exists alA;clear hp6 hs6 hb6 h06 h16 a0 a1;ac_rfl;rw [qi];refine⟨Y,⟨u1,h17,a17 ()⟩,by rw [←q2' ()];exact hp7,by rw [←q3' ()];exact hs7,okY (),hY4,λ r2 t2 H8 hr2 e8 h8 pB=>?_⟩;obtain⟨yb,hyb,alB⟩:=pB;have hya8:=e8.at hya;have n12:r1 ≠ r2:=λ z=>by rw [z,hr2] at hya;cases hya
   have alA8:=λ (_:Unit)=>(alA ()).imp λ _ _ t=>axP.ext t e8;exists alB;clear hp7 hs7 hb7 h17 a17 alA h7 hya hr1 hr2 e7 e8 q2' q3' okX okY hX4 hY4;ac_rfl;refine uz hya8 ?_;intro l9 H9 _ e9 h9;have alA9:=λ (_:Unit)=>AD ((alA8 ()).imp λ _ _ t=>axP.ext t e9);have alB9:=λ (_:Unit)=>(alB ()).imp λ _ _ t=>axP.ext t e9;have hya9:=e9.at hya8;have hyb9:=e9.at hyb;clear alA8 alB hya8 hyb e9 h8;ac_rfl;intro x1 dx1 G1 hx1 hdx1 hne1 g1 k1 k1';rw [mx];refine⟨dx1,(axF 1 X).reverse,k1,cJ.ext ⟨ya.reverse,h9,Bi (alA9 ())⟩ g1,vx1,λ G2 D2 g2' hD2 hx2 tt2=>?_⟩;have eg:=g2' H9 g1 hx1;have nD1:D2 ≠ r1:=λ z=>by rw [z,g1.at hya9] at hD2;cases hD2
   have nD2:D2 ≠ r2:=λ z=>by rw [z,g1.at hyb9] at hD2;cases hD2
   have alA10:=λ (_:Unit)=>(alA9 ()).imp λ _ _ t=>axP.ext t eg;have alB10:=λ (_:Unit)=>(alB9 ()).imp λ _ _ t=>axP.ext t eg;have hya10:=eg.at hya9;have hyb10:=eg.at hyb9;clear alA9 alB9 hya9 hyb9 h9 k1 k1' hx1 hdx1 hne1 g1 g2' hD2 eg;ac_rfl;refine uz hyb10 ?_;intro l11 H11 _ e11 h11;have alA11:=λ (_:Unit)=>(alA10 ()).imp λ _ _ t=>axP.ext t e11;have alB11:=λ (_:Unit)=>AD ((alB10 ()).imp λ _ _ t=>axP.ext t e11);have hya11:=e11.at hya10;have hyb11:=e11.at hyb10;have hx11:=e11.at hx2;have tt11:=tt2.ext e11;clear alA10 alB10 hya10 hyb10 hx2 tt2 e11;ac_rfl;intro x2 dx2 G3 hx3 hdx3 hne3 g3 k3 k3';rw [mx];refine⟨dx2,(axF 1 Y).reverse,k3,cJ.ext ⟨yb.reverse,h11,Bi (alB11 ())⟩ g3,vy1,λ G4 D4 g4' hD4 hx4 tt4=>?_⟩;have eg:=g4' H11 g3 hx3;have mD1:D4 ≠ r1:=λ z=>by rw [z,g3.at hya11] at hD4;cases hD4
   have mD2:D4 ≠ r2:=λ z=>by rw [z,g3.at hyb11] at hD4;cases hD4
   have alA12:=λ (_:Unit)=>(alA11 ()).imp λ _ _ t=>axP.ext t eg;have alB12:=λ (_:Unit)=>(alB11 ()).imp λ _ _ t=>axP.ext t eg;have hya12:=eg.at hya11;have hyb12:=eg.at hyb11;have hx12:=eg.at hx11;have tt12:=tt11.ext eg;clear alA11 alB11 hya11 hyb11 hx11 tt11 h11 k3 k3' hx3 hdx3 hne3 g3 g4' hD4 eg;have nx1:x1 ≠ r1:=λ z=>by rw [z,hya12] at hx12;cases hx12
   have nx2:x2 ≠ r1:=λ z=>by rw [z,hya12] at hx4;cases hx4
   have ny1:x1 ≠ r2:=λ z=>by rw [z,hyb12] at hx12;cases hx12
   have ny2:x2 ≠ r2:=λ z=>by rw [z,hyb12] at hx4;cases hx4
   have hyb13:upd G4 r1 (.lst ya.reverse) r2=some (.lst yb):=by rw [ae (Lw n12)];exact hyb12
   have pA14:du (upd (upd G4 r1 (.lst ya.reverse)) r2 (.lst yb.reverse)) r1 (axF 1 X).reverse:=⟨ya.reverse,by rw [ae n12];exact ah,(alA12 ()).imp λ _ _ t=>axP.upd (axP.upd t hya12) hyb13⟩;have pB14:du (upd (upd G4 r1 (.lst ya.reverse)) r2 (.lst yb.reverse)) r2 (axF 1 Y).reverse:=⟨yb.reverse,ah,(alB12 ()).imp λ _ _ t=>axP.upd (axP.upd t hya12) hyb13⟩;have v1:bj t.a_View (upd (upd G4 r1 (.lst ya.reverse)) r2 (.lst yb.reverse)) x1 (szP X) (fiF 1 X) ((axF 1 X).reverse.map aj):=⟨dx1,D2,by rw [ae ny1,ae nx1];exact hx12,gG (gG tt12 hya12 nD1) hyb13 nD2⟩;have v2:bj t.a_View (upd (upd G4 r1 (.lst ya.reverse)) r2 (.lst yb.reverse)) x2 (szP X) (fiF 1 Y) ((axF 1 Y).reverse.map aj):=⟨dx2,D4,by rw [ae ny2,ae nx2];exact hx4,gG (gG tt4 hya12 mD1) hyb13 mD2⟩;clear alA12 alB12 tt12 tt4 hx12 hx4 hyb12;ac_rfl;generalize upd (upd G4 r1 (.lst ya.reverse)) r2 (.lst yb.reverse)=H14 at *;generalize fiF 1 X=f1 at *;generalize fiF 1 Y=f2 at *;generalize szP X=room at *;generalize (axF 1 X).reverse=R at *;generalize (axF 1 Y).reverse=S at *;obtain⟨hvv,hbm⟩:=hv;clear hya12 hyb13 nx1 nx2 ny1 ny2 nD1 nD2 mD1 mD2 vx1 vy1;have a3:=hvv.kA.len;have b3:=hvv.kB.len;rw [K2] at a3 b3;have oA:∀ b∈R,(1:Int)<=b.1:=λ b hb=>(hvv.kA.sz (aj b) (MN hb)).1.1;have oB:∀ b∈S,(1:Int)<=b.1:=λ b hb=>(hvv.kB.sz (aj b) (MN hb)).1.1;exists oA;exists oB;exists hbm
   have hbm':b=true ↔ fm S R (f1 - f2):=by
    have e:f1 - f2=0 - (f2 - f1):=by omega
    rw [e,fm.swap];exact hbm ()
   exists hbm';rw [jB];refine⟨R,S,pA14,pB14,by omega,by omega,oA (),oB (),λ ks r15 H15 e15 t15 ko=>?_⟩;obtain⟨ts,h15,hal⟩:=t15;have hts:(ts.length:Int)=(ks.length:Int):=by rw [hal.1];unfold af;rw [length_map]
   have hkl:ks.length<=17:=by have:=(hvv.tms ko).1.len;unfold af at this;rw [length_map] at this;exact this
   have cm:gS 4 (ks.length:Int):=.inl ⟨by decide,by decide⟩;have pm1:∀ l,jh l (ak (R.map aj) (S.map aj))->1+4 * (ks.length:Int)=1+4 * (l.length:Int):=λ l hl=>by rw [hl.uniq ko]
   have pm2:∀ l,jh l (ak (S.map aj) (R.map aj))->1+4 * (ks.length:Int)=1+4 * (l.length:Int):=λ l hl=>by rw [hl.swap.uniq ko]
   exists pm1;exists pm2;clear hal ko;ac_rfl;clear cm hts h15;obtain⟨mo,hmo⟩:∃ mo,1+4 * (ks.length:Int)=mo:=⟨_,rfl⟩;have m1:1<=mo/\mo<=1000:=by omega
   rw [hmo] at pm1 pm2 ⊢;clear hmo;rw [dk];refine⟨room,f1,f2,_,_,v1.ext e15,v2.ext e15,hvv.kA.axes,hvv.kB.axes,m1.1,by omega,sW hvv (λ l hl=>by rw [pm1 () l hl];exact Lp _),λ ks1 o1 pp1 r16 H16 e16 sr w1=>?_⟩;have an1:=uv hvv sr w1 (pm1 ()) (hbm ());have e46:=e15.trans e16;exists an1;clear sr w1 e15 e16;ac_rfl;rw [gg];refine⟨R,S,aC pA14 e46,aC pB14 e46,hvv,vx2 (),vy2 (),an1 (),λ H17 e17=>?_⟩;have an7:=(an1 ()).ext e17;have e47:=e46.trans e17;clear an1 e46 e17
   have self:∀ (H18:Hp) (e:Ext H14 H18) (ks2:List Int) (o2:Option (List Int)) (pp2:List (List V)) (r19:Addr) (H19:Hp),lJ (R.map aj) (R.map aj) (f1 - f1) (mo+20) ks2 o2 pp2->ShV H18 H19 r19 (R.map aj).length ks2 (ak (R.map aj) (R.map aj)) pp2 o2->∃ (ys zs:List Int) (a1 a2:Addr),H19 r19=some (.tup [.str "shared",.ref a1,.ref a2])/\H19 a1=some (.tup (ys.map V.int))/\H19 a2=some (.tup (zs.map V.int))/\InA R ys/\InA R zs/\cF R ys=0+cF R zs:=λ H18 e ks2 o2 pp2 r19 H19 sr w=>by
    rw [Int.sub_self] at sr
    cases o2 with
    | some xs=>
     obtain⟨a1,a2,w1,w2,w3⟩:=w;rw [K2] at w2 w3;obtain⟨s1,s2,s3⟩:=Ar sr;exact⟨_,_,a1,a2,w1,w2,w3,s1,s2,s3⟩
    | none=>
     have z:=lY (oA ());exact absurd (mn.mpr ⟨_,_,z,z,(LF _).symm⟩) (D7 hvs sr)
   exists self;have rest:∀ H18,Ext H14 H18->Ext H14 H18:=λ _ h=>h;clear rest
   cases b with
   | true=>
    clear an7;ac_rfl;rw [dk];refine⟨room,f1,f1,_,_,v1.ext e47,v1.ext e47,hvv.kA.axes,hvv.kA.axes,by omega,by omega,sW hvs (λ l hl=>by have:=pQ hl;omega),λ ks2 o2 pp2 r19 H19 e19 sr w=>?_⟩;obtain⟨ys,zs,a1,a2,w1,w2,w3,i1,i2,hd⟩:=self () _ e47 ks2 o2 pp2 r19 H19 sr w;have e49:=e47.trans e19;exists i1;exists i2;exists hd;clear sr w self;ac_rfl;rw [kR];refine⟨R,R,ys,zs,a1,a2,w1,w2,w3,aC pA14 e49,aC pA14 e49,a3,a3,i1 (),i2 (),vx2 (),vx2 (),hd (),λ H20 e20=>?_⟩;have e50:=e49.trans e20;clear w1 w2 w3 i1 i2 hd;ac_rfl;rw [dk];refine⟨room,f2,f1,_,_,v2.ext e50,v1.ext e50,hvv.kB.axes,hvv.kA.axes,m1.1,by omega,sW hvv.symm (λ l hl=>by rw [pm2 () l hl];exact Lp _),λ ks3 o3 pp3 r21 H21 e21 sr w=>?_⟩;have an2:=uv hvv.symm sr w (pm2 ()) (hbm' ());have e51:=e50.trans e21;exists an2;clear sr w;ac_rfl;rw [gg];exact⟨S,R,aC pB14 e51,aC pA14 e51,hvv.symm,vy2 (),vx2 (),an2 (),λ H22 _=>kk () H22⟩
   | false=>
    rcases an7 with ⟨hbb,_⟩|⟨_,pp,a1,h1,pap,hpl,rep⟩
    ·cases hbb
    exists rep;exists pap;ac_rfl;rw [oP];refine⟨room,f1,f2,_,_,pp,v1.ext e47,v2.ext e47,hvv.kA.axes,hvv.kB.axes,pap (),hpl,λ l hl=>⟨(hvv.tms hl).1,(rep () l hl).2⟩,λ H18 e18=>?_⟩;have e48:=e47.trans e18;clear h1 pap rep;ac_rfl;rw [dk];refine⟨room,f1,f1,_,_,v1.ext e48,v1.ext e48,hvv.kA.axes,hvv.kA.axes,by omega,by omega,sW hvs (λ l hl=>by have:=pQ hl;omega),λ ks2 o2 pp2 r19 H19 e19 sr w=>?_⟩;obtain⟨ys,zs,a1,a2,w1,w2,w3,i1,i2,hd⟩:=self () _ e48 ks2 o2 pp2 r19 H19 sr w;have e49:=e48.trans e19;exists i1;exists i2;exists hd;clear sr w self;ac_rfl;rw [kR];refine⟨R,R,ys,zs,a1,a2,w1,w2,w3,aC pA14 e49,aC pA14 e49,a3,a3,i1 (),i2 (),vx2 (),vx2 (),hd (),λ H20 e20=>?_⟩;have e50:=e49.trans e20;clear w1 w2 w3 i1 i2 hd;ac_rfl;rw [dk];refine⟨room,f2,f1,_,_,v2.ext e50,v1.ext e50,hvv.kB.axes,hvv.kA.axes,m1.1,by omega,sW hvv.symm (λ l hl=>by rw [pm2 () l hl];exact Lp _),λ ks3 o3 pp3 r21 H21 e21 sr w=>?_⟩;have an2:=uv hvv.symm sr w (pm2 ()) (hbm' ());have e51:=e50.trans e21;exists an2;clear sr w;ac_rfl;rw [gg];exact⟨S,R,aC pB14 e51,aC pA14 e51,hvv.symm,vy2 (),vx2 (),an2 (),λ H22 _=>kk () H22⟩
end
theorem Kg{l:W.OpenLaw}{w:World}{K:W.Frag}{h:Heap}{mg:Str->Option Value}{fa:Addr}(X:K.In h)(G:h.Ns mainGlobals mg)(hfa:mg "law"=some (.ref fa))
  {C0:Addr} (y0:W.nsIn K mainGlobals "PaceError"=some (some (.ref C0)))
  {C1:Addr} (y1:W.nsIn K mainGlobals "NoPlace"=some (some (.ref C1)))
  {C2:Addr} (y2:W.nsIn K mainGlobals "NoView"=some (some (.ref C2)))
  {C3:Addr} (y3:W.nsIn K mainGlobals "NoPair"=some (some (.ref C3)))
  {C4:Addr} (y4:W.nsIn K mainGlobals "NoMost"=some (some (.ref C4)))
  {C5:Addr} (y5:W.nsIn K mainGlobals "View"=some (some (.ref C5)))
  {f0:Addr} {d0:FuncData} (a0:W.nsIn K mainGlobals "is_whole"=some (some (.ref f0))) (F0:Fun K "is_whole" "is_whole" fU f0 d0)
  {f1:Addr} {d1:FuncData} (a1:W.nsIn K mainGlobals "divisor"=some (some (.ref f1))) (F1:Fun K "divisor" "divisor" ip f1 d1)
  {f2:Addr} {d2:FuncData} (a2:W.nsIn K mainGlobals "divisor_of"=some (some (.ref f2))) (F2:Fun K "divisor_of" "divisor_of" eo f2 d2)
  {f3:Addr} {d3:FuncData} (a3:W.nsIn K mainGlobals "least_sum"=some (some (.ref f3))) (F3:Fun K "least_sum" "least_sum" dD f3 d3)
  {f4:Addr} {d4:FuncData} (a4:W.nsIn K mainGlobals "greatest_sum"=some (some (.ref f4))) (F4:Fun K "greatest_sum" "greatest_sum" bY f4 d4)
  {f5:Addr} {d5:FuncData} (a5:W.nsIn K mainGlobals "rest_of"=some (some (.ref f5))) (F5:Fun K "rest_of" "rest_of" fy f5 d5)
  {f6:Addr} {d6:FuncData} (a6:W.nsIn K mainGlobals "end_of"=some (some (.ref f6))) (F6:Fun K "end_of" "end_of" kE f6 d6)
  {f7:Addr} {d7:FuncData} (a7:W.nsIn K mainGlobals "is_number_below"=some (some (.ref f7))) (F7:Fun K "is_number_below" "is_number_below" dn f7 d7)
  {f8:Addr} {d8:FuncData} (a8:W.nsIn K mainGlobals "is_place"=some (some (.ref f8))) (F8:Fun K "is_place" "is_place" jr f8 d8)
  {f9:Addr} {d9:FuncData} (a9:W.nsIn K mainGlobals "is_within"=some (some (.ref f9))) (F9:Fun K "is_within" "is_within" eZ f9 d9)
  {f10:Addr} {d10:FuncData} (a10:W.nsIn K mainGlobals "is_size"=some (some (.ref f10))) (F10:Fun K "is_size" "is_size" ic f10 d10)
  {f11:Addr} {d11:FuncData} (a11:W.nsIn K mainGlobals "is_axis"=some (some (.ref f11))) (F11:Fun K "is_axis" "is_axis" ik f11 d11)
  {f12:Addr} {d12:FuncData} (a12:W.nsIn K mainGlobals "are_axes"=some (some (.ref f12))) (F12:Fun K "are_axes" "are_axes" eM f12 d12)
  {f13:Addr} {d13:FuncData} (a13:W.nsIn K mainGlobals "kept_axis"=some (some (.ref f13))) (F13:Fun K "kept_axis" "kept_axis" eY f13 d13)
  {f14:Addr} {d14:FuncData} (F14:Fun K "__init__" "View.__init__" bT f14 d14)
  {f15:Addr} {d15:FuncData} (F15:Fun K "sizes" "View.sizes" gn f15 d15)
  {f16:Addr} {d16:FuncData} (F16:Fun K "paces" "View.paces" gq f16 d16)
  {f17:Addr} {d17:FuncData} (F17:Fun K "cell" "View.cell" iF f17 d17)
  {f18:Addr} {d18:FuncData} (F18:Fun K "least" "View.least" cO f18 d18)
  {f19:Addr} {d19:FuncData} (F19:Fun K "greatest" "View.greatest" bS f19 d19)
  {f20:Addr} {d20:FuncData} (a20:W.nsIn K mainGlobals "refuse_rooms"=some (some (.ref f20))) (F20:Fun K "refuse_rooms" "refuse_rooms" c8 f20 d20)
  {f21:Addr} {d21:FuncData} (a21:W.nsIn K mainGlobals "pulls"=some (some (.ref f21))) (F21:Fun K "pulls" "pulls" hG f21 d21)
  {f22:Addr} {d22:FuncData} (a22:W.nsIn K mainGlobals "gathered"=some (some (.ref f22))) (F22:Fun K "gathered" "gathered" eL f22 d22)
  {f23:Addr} {d23:FuncData} (a23:W.nsIn K mainGlobals "first_case"=some (some (.ref f23))) (F23:Fun K "first_case" "first_case" cL f23 d23)
  {f24:Addr} {d24:FuncData} (a24:W.nsIn K mainGlobals "parted"=some (some (.ref f24))) (F24:Fun K "parted" "parted" kD f24 d24)
  {f25:Addr} {d25:FuncData} (a25:W.nsIn K mainGlobals "numbers_at_once"=some (some (.ref f25))) (F25:Fun K "numbers_at_once" "numbers_at_once" aQ f25 d25)
  {f26:Addr} {d26:FuncData} (a26:W.nsIn K mainGlobals "narrowed"=some (some (.ref f26))) (F26:Fun K "narrowed" "narrowed" fS f26 d26)
  {f27:Addr} {d27:FuncData} (a27:W.nsIn K mainGlobals "parting"=some (some (.ref f27))) (F27:Fun K "parting" "parting" ib f27 d27)
  {f28:Addr} {d28:FuncData} (a28:W.nsIn K mainGlobals "places_by_numbers"=some (some (.ref f28))) (F28:Fun K "places_by_numbers" "places_by_numbers" bG f28 d28)
  {D29:Addr} {qc29:Value} {qd29:Option Addr} {qn29:Nat} {qs29:Array (Option Value)} {dk29:Tok}
  {f29:Addr} {od29 an29:Option Addr} {sl29:Array (Option Value)} {oc29 kV29 dc29 pm29 cd29 ct29:Value}
  (a29:W.nsIn K mainGlobals "shares"=some (some (.ref f29))) (l29:K.lookup f29=some ⟨oc29,od29,.func (W.fnOf "shares" "shares" (cY eG) (b9 eG) (aa eG) (.ref D29) kV29 dc29 pm29 an29 cd29 ct29),sl29⟩)
  (q29:K.lookup D29=some ⟨qc29,qd29,.seq #[Value.int 1000 dk29] qn29,qs29⟩)
  (c29:W.codeIn K cd29 "shares"=true) (k29:W.keepIn K (.ref f29)=true)
  {f30:Addr} {d30:FuncData} (a30:W.nsIn K mainGlobals "is_step"=some (some (.ref f30))) (F30:Fun K "is_step" "is_step" fz f30 d30)
  {f31:Addr} {d31:FuncData} (a31:W.nsIn K mainGlobals "divides_all"=some (some (.ref f31))) (F31:Fun K "divides_all" "divides_all" cp f31 d31)
  {f32:Addr} {d32:FuncData} (a32:W.nsIn K mainGlobals "ends_by"=some (some (.ref f32))) (F32:Fun K "ends_by" "ends_by" il f32 d32)
  {f33:Addr} {d33:FuncData} (a33:W.nsIn K mainGlobals "parts_by"=some (some (.ref f33))) (F33:Fun K "parts_by" "parts_by" fR f33 d33)
  {f34:Addr} {d34:FuncData} (a34:W.nsIn K mainGlobals "is_apart"=some (some (.ref f34))) (F34:Fun K "is_apart" "is_apart" fV f34 d34)
  {f35:Addr} {d35:FuncData} (a35:W.nsIn K mainGlobals "_law_draw"=some (some (.ref f35))) (F35:Fun K "_law_draw" "_law_draw" ff f35 d35)
  {f36:Addr} {d36:FuncData} (a36:W.nsIn K mainGlobals "_law_whole"=some (some (.ref f36))) (F36:Fun K "_law_whole" "_law_whole" er f36 d36)
  {f37:Addr} {d37:FuncData} (a37:W.nsIn K mainGlobals "_law_terms"=some (some (.ref f37))) (F37:Fun K "_law_terms" "_law_terms" cM f37 d37)
  {f38:Addr} {d38:FuncData} (a38:W.nsIn K mainGlobals "_law_is_place"=some (some (.ref f38))) (F38:Fun K "_law_is_place" "_law_is_place" cy f38 d38)
  {f39:Addr} {d39:FuncData} (a39:W.nsIn K mainGlobals "_law_cell"=some (some (.ref f39))) (F39:Fun K "_law_cell" "_law_cell" dF f39 d39)
  {f40:Addr} {d40:FuncData} (a40:W.nsIn K mainGlobals "_law_met"=some (some (.ref f40))) (F40:Fun K "_law_met" "_law_met" fW f40 d40)
  {f41:Addr} {d41:FuncData} (a41:W.nsIn K mainGlobals "_law_sums"=some (some (.ref f41))) (F41:Fun K "_law_sums" "_law_sums" cw f41 d41)
  {f42:Addr} {d42:FuncData} (a42:W.nsIn K mainGlobals "_law_divisor"=some (some (.ref f42))) (F42:Fun K "_law_divisor" "_law_divisor" c9 f42 d42)
  {f43:Addr} {d43:FuncData} (a43:W.nsIn K mainGlobals "_law_ended"=some (some (.ref f43))) (F43:Fun K "_law_ended" "_law_ended" cN f43 d43)
  {f44:Addr} {d44:FuncData} (a44:W.nsIn K mainGlobals "_law_rest"=some (some (.ref f44))) (F44:Fun K "_law_rest" "_law_rest" fb f44 d44)
  {f45:Addr} {d45:FuncData} (a45:W.nsIn K mainGlobals "_law_behind"=some (some (.ref f45))) (F45:Fun K "_law_behind" "_law_behind" dI f45 d45)
  {f46:Addr} {d46:FuncData} (a46:W.nsIn K mainGlobals "_law_left"=some (some (.ref f46))) (F46:Fun K "_law_left" "_law_left" dE f46 d46)
  {f47:Addr} {d47:FuncData} (a47:W.nsIn K mainGlobals "_law_apart"=some (some (.ref f47))) (F47:Fun K "_law_apart" "_law_apart" eB f47 d47)
  {f48:Addr} {d48:FuncData} (a48:W.nsIn K mainGlobals "_law_block"=some (some (.ref f48))) (F48:Fun K "_law_block" "_law_block" eA f48 d48)
  {f49:Addr} {d49:FuncData} (a49:W.nsIn K mainGlobals "_law_meet"=some (some (.ref f49))) (F49:Fun K "_law_meet" "_law_meet" fe f49 d49)
  {f50:Addr} {d50:FuncData} (a50:W.nsIn K mainGlobals "_law_axes"=some (some (.ref f50))) (F50:Fun K "_law_axes" "_law_axes" fg f50 d50)
  {f51:Addr} {d51:FuncData} (a51:W.nsIn K mainGlobals "_law_right"=some (some (.ref f51))) (F51:Fun K "_law_right" "_law_right" et f51 d51)
  {f52:Addr} {od52 an52:Option Addr} {sl52:Array (Option Value)} {oc52 kV52 dc52 pm52 cd52 ct52:Value}
  (a52:W.nsIn K mainGlobals "law"=some (some (.ref f52))) (l52:K.lookup f52=some ⟨oc52,od52,.func (W.fnOf "law" "law" (cY jS) (b9 jS) (aa jS) .none kV52 dc52 pm52 an52 cd52 ct52),sl52⟩)
  (c52:W.codeIn K cd52 "law"=true) (k52:W.keepIn K (.ref f52)=true)
  (pg_View:W.plainGet K C5 Str.empty=true)
  (hd_View:W.hasDictIn K C5=true)
  (po_View:W.plainOver K C5=true)
  (sa_View:W.findIn K (.ref C5) "__setattr__"=some (some (.builtin "object.__setattr__")))
  (nf_View_axes:W.findIn K (.ref C5) "axes"=some none)
  (nf_View_first:W.findIn K (.ref C5) "first"=some none)
  (nf_View_room:W.findIn K (.ref C5) "room"=some none)
  (fi_View___init__:W.findIn K (.ref C5) "__init__"=some (some (.ref f14)))
  (fn_View___init__:W.isFn K (.ref f14)=true)
  (mm_View:W.makesIn K C5=true)
  (ck_View:W.keepIn K (.ref C5)=true)
  (fi_View_sizes:W.findIn K (.ref C5) "sizes"=some (some (.ref f15)))
  (fn_View_sizes:W.isFn K (.ref f15)=true)
  (fi_View_paces:W.findIn K (.ref C5) "paces"=some (some (.ref f16)))
  (fn_View_paces:W.isFn K (.ref f16)=true)
  (fi_View_cell:W.findIn K (.ref C5) "cell"=some (some (.ref f17)))
  (fn_View_cell:W.isFn K (.ref f17)=true)
  (fi_View_least:W.findIn K (.ref C5) "least"=some (some (.ref f18)))
  (fn_View_least:W.isFn K (.ref f18)=true)
  (fi_View_greatest:W.findIn K (.ref C5) "greatest"=some (some (.ref f19)))
  (fn_View_greatest:W.isFn K (.ref f19)=true)
  {tk0:Tok} (w0:W.nsIn K mainGlobals "MOST_ROOM"=some (some (.int 1000000000000000000 tk0)))
  {tk1:Tok} (w1:W.nsIn K mainGlobals "MOST_SIZE"=some (some (.int 1000000000 tk1)))
  {tk2:Tok} (w2:W.nsIn K mainGlobals "MOST_AXES"=some (some (.int 8 tk2)))
  {tk3:Tok} (w3:W.nsIn K mainGlobals "MOST_CASES"=some (some (.int 100000 tk3)))
  (z0:W.nsIn K mainGlobals "ValueError"=some none)
  (z1:W.nsIn K mainGlobals "abs"=some none)
  (z2:W.nsIn K mainGlobals "all"=some none)
  (z3:W.nsIn K mainGlobals "bool"=some none)
  (z4:W.nsIn K mainGlobals "enumerate"=some none)
  (z5:W.nsIn K mainGlobals "int"=some none)
  (z6:W.nsIn K mainGlobals "isinstance"=some none)
  (z7:W.nsIn K mainGlobals "len"=some none)
  (z8:W.nsIn K mainGlobals "list"=some none)
  (z9:W.nsIn K mainGlobals "max"=some none)
  (z10:W.nsIn K mainGlobals "min"=some none)
  (z11:W.nsIn K mainGlobals "range"=some none)
  (z12:W.nsIn K mainGlobals "reversed"=some none)
  (z13:W.nsIn K mainGlobals "sorted"=some none)
  (z14:W.nsIn K mainGlobals "str"=some none)
  (z15:W.nsIn K mainGlobals "sum"=some none)
  (z16:W.nsIn K mainGlobals "tuple"=some none)
  (z17:W.nsIn K mainGlobals "zip"=some none)
  : ∃ fd:FuncData,(∀ (s:Shared) (v:Value),BindsTo s fd ⟨[v],[]⟩ [("_law_script",v)])/\∀ base:Heap,K.In base->base.Ns mainGlobals mg->bC l.prog w K mg base CX0 9 fa fd ["_law_script"] (sV K):=by
 have e:=hfa.symm.trans (Lq X G a52);cases e;have F29:=Dv (st:=eG) l29 c29 k29;have F52:=GZ (st:=jS) l52 c52 k52;have T:Tx K mg ⟨C0,C1,C2,C3,C4,C5,f0,_,f1,_,f2,_,f3,_,f4,_,f5,_,f6,_,f7,_,f8,_,f9,_,f10,_,f11,_,f12,_,f13,_,f14,_,f15,_,f16,_,f17,_,f18,_,f19,_,f20,_,f21,_,f22,_,f23,_,f24,_,f25,_,f26,_,f27,_,f28,_,f29,_,f30,_,f31,_,f32,_,f33,_,f34,_,f35,_,f36,_,f37,_,f38,_,f39,_,f40,_,f41,_,f42,_,f43,_,f44,_,f45,_,f46,_,f47,_,f48,_,f49,_,f50,_,f51,_,fa,_⟩:=⟨Lq X G y0,Lq X G y1,Lq X G y2,Lq X G y3,Lq X G y4,Lq X G y5,⟨_,Lq X G w0⟩,⟨_,Lq X G w1⟩,⟨_,Lq X G w2⟩,⟨_,Lq X G w3⟩,⟨pg_View,hd_View,po_View,sa_View⟩,nf_View_axes,nf_View_first,nf_View_room,⟨mm_View,fi_View___init__,fn_View___init__,ck_View⟩,⟨fi_View_sizes,fn_View_sizes,F15.kp⟩,⟨fi_View_paces,fn_View_paces,F16.kp⟩,⟨fi_View_cell,fn_View_cell,F17.kp⟩,⟨fi_View_least,fn_View_least,F18.kp⟩,⟨fi_View_greatest,fn_View_greatest,F19.kp⟩,F0,Lq X G a0,F0.binds (ps:=["thing"]) (λ _ _ _ _ _ _=>nt (λ _=>rfl)),F1,Lq X G a1,F1.binds (ps:=["one", "other"]) (λ _ _ _ _ _ _=>nq (λ _ _=>rfl)),F2,Lq X G a2,F2.binds (ps:=["numbers"]) (λ _ _ _ _ _ _=>nt (λ _=>rfl)),F3,Lq X G a3,F3.binds (ps:=["terms", "case"]) (λ _ _ _ _ _ _=>nq (λ _ _=>rfl)),F4,Lq X G a4,F4.binds (ps:=["terms", "case"]) (λ _ _ _ _ _ _=>nq (λ _ _=>rfl)),F5,Lq X G a5,F5.binds (ps:=["terms", "case"]) (λ _ _ _ _ _ _=>nq (λ _ _=>rfl)),F6,Lq X G a6,F6.binds (ps:=["terms", "goal", "case"]) (λ _ _ _ _ _ _=>nk (λ _ _ _=>rfl)),F7,Lq X G a7,F7.binds (ps:=["thing", "bound"]) (λ _ _ _ _ _ _=>nq (λ _ _=>rfl)),F8,Lq X G a8,F8.binds (ps:=["sizes", "thing"]) (λ _ _ _ _ _ _=>nq (λ _ _=>rfl)),F9,Lq X G a9,F9.binds (ps:=["thing", "low", "high"]) (λ _ _ _ _ _ _=>nk (λ _ _ _=>rfl)),F10,Lq X G a10,F10.binds (ps:=["thing"]) (λ _ _ _ _ _ _=>nt (λ _=>rfl)),F11,Lq X G a11,F11.binds (ps:=["thing"]) (λ _ _ _ _ _ _=>nt (λ _=>rfl)),F12,Lq X G a12,F12.binds (ps:=["thing"]) (λ _ _ _ _ _ _=>nt (λ _=>rfl)),F13,Lq X G a13,F13.binds (ps:=["axis"]) (λ _ _ _ _ _ _=>nt (λ _=>rfl)),F14,F14.binds (ps:=["self", "room", "first", "axes"]) (λ _ _ _ _ _ _=>xu (λ _ _ _ _=>rfl)),F15,F15.binds (ps:=["self"]) (λ _ _ _ _ _ _=>nt (λ _=>rfl)),F16,F16.binds (ps:=["self"]) (λ _ _ _ _ _ _=>nt (λ _=>rfl)),F17,F17.binds (ps:=["self", "place"]) (λ _ _ _ _ _ _=>nq (λ _ _=>rfl)),F18,F18.binds (ps:=["self"]) (λ _ _ _ _ _ _=>nt (λ _=>rfl)),F19,F19.binds (ps:=["self"]) (λ _ _ _ _ _ _=>nt (λ _=>rfl)),F20,Lq X G a20,F20.binds (ps:=["one", "other"]) (λ _ _ _ _ _ _=>nq (λ _ _=>rfl)),F21,Lq X G a21,F21.binds (ps:=["one", "other"]) (λ _ _ _ _ _ _=>nq (λ _ _=>rfl)),F22,Lq X G a22,F22.binds (ps:=["one", "other"]) (λ _ _ _ _ _ _=>nq (λ _ _=>rfl)),F23,Lq X G a23,F23.binds (ps:=["terms"]) (λ _ _ _ _ _ _=>nt (λ _=>rfl)),F24,Lq X G a24,F24.binds (ps:=["case", "k", "at"]) (λ _ _ _ _ _ _=>nk (λ _ _ _=>rfl)),F25,Lq X G a25,F25.binds (ps:=["terms", "goal", "case"]) (λ _ _ _ _ _ _=>nk (λ _ _ _=>rfl)),F26,Lq X G a26,F26.binds (ps:=["times", "bounds", "above_least", "below_greatest"]) (λ _ _ _ _ _ _=>xu (λ _ _ _ _=>rfl)),F27,Lq X G a27,F27.binds (ps:=["terms", "goal", "case"]) (λ _ _ _ _ _ _=>nk (λ _ _ _=>rfl)),F28,Lq X G a28,F28.binds (ps:=["one", "other", "terms", "numbers"]) (λ _ _ _ _ _ _=>xu (λ _ _ _ _=>rfl)),F29,Lq X G a29,(λ s us hin hl=>match us,(show us.length=3 by simp only [K4,Lr,Na] at hl;omega) with|[_,_,_],_=>BindsTo.of_defaults rfl (hin _ _ q29) rfl rfl rfl),⟨_,(λ s us hin hl=>match us,(show us.length=2 by simp only [K4,Lr,Na] at hl;omega) with|[_,_],_=>BindsTo.of_defaults rfl (hin _ _ q29) rfl rfl rfl)⟩,F30,Lq X G a30,F30.binds (ps:=["thing", "word", "many"]) (λ _ _ _ _ _ _=>nk (λ _ _ _=>rfl)),F31,Lq X G a31,F31.binds (ps:=["terms", "case", "number"]) (λ _ _ _ _ _ _=>nk (λ _ _ _=>rfl)),F32,Lq X G a32,F32.binds (ps:=["terms", "goal", "case", "step"]) (λ _ _ _ _ _ _=>xu (λ _ _ _ _=>rfl)),F33,Lq X G a33,F33.binds (ps:=["case", "step"]) (λ _ _ _ _ _ _=>nq (λ _ _=>rfl)),F34,Lq X G a34,F34.binds (ps:=["one", "other", "paper"]) (λ _ _ _ _ _ _=>nk (λ _ _ _=>rfl)),F35,Lq X G a35,F35.binds (ps:=["_law_script", "_law_k", "_law_many"]) (λ _ _ _ _ _ _=>nk (λ _ _ _=>rfl)),F36,Lq X G a36,F36.binds (ps:=["_law_found"]) (λ _ _ _ _ _ _=>nt (λ _=>rfl)),F37,Lq X G a37,F37.binds (ps:=["_law_one", "_law_other"]) (λ _ _ _ _ _ _=>nq (λ _ _=>rfl)),F38,Lq X G a38,F38.binds (ps:=["_law_place", "_law_axes_here"]) (λ _ _ _ _ _ _=>nq (λ _ _=>rfl)),F39,Lq X G a39,F39.binds (ps:=["_law_first", "_law_axes_here", "_law_place"]) (λ _ _ _ _ _ _=>nk (λ _ _ _=>rfl)),F40,Lq X G a40,F40.binds (ps:=["_law_found", "_law_one", "_law_other", "_law_goal"]) (λ _ _ _ _ _ _=>xu (λ _ _ _ _=>rfl)),F41,Lq X G a41,F41.binds (ps:=["_law_terms_here", "_law_case"]) (λ _ _ _ _ _ _=>nq (λ _ _=>rfl)),F42,Lq X G a42,F42.binds (ps:=["_law_numbers"]) (λ _ _ _ _ _ _=>nt (λ _=>rfl)),F43,Lq X G a43,F43.binds (ps:=["_law_terms_here", "_law_goal", "_law_case"]) (λ _ _ _ _ _ _=>nk (λ _ _ _=>rfl)),F44,Lq X G a44,F44.binds (ps:=["_law_terms_here", "_law_goal", "_law_case", "_law_by"]) (λ _ _ _ _ _ _=>xu (λ _ _ _ _=>rfl)),F45,Lq X G a45,F45.binds (ps:=["_law_terms_here", "_law_goal", "_law_case", "_law_step"]) (λ _ _ _ _ _ _=>xu (λ _ _ _ _=>rfl)),F46,Lq X G a46,F46.binds (ps:=["_law_terms_here", "_law_goal", "_law_paper", "_law_bare"]) (λ _ _ _ _ _ _=>xu (λ _ _ _ _=>rfl)),F47,Lq X G a47,F47.binds (ps:=["_law_found", "_law_terms_here", "_law_goal", "_law_most"]) (λ _ _ _ _ _ _=>xu (λ _ _ _ _=>rfl)),F48,Lq X G a48,F48.binds (ps:=["_law_cell_here", "_law_size", "_law_step"]) (λ _ _ _ _ _ _=>nk (λ _ _ _=>rfl)),F49,Lq X G a49,F49.binds (ps:=["_law_one", "_law_other", "_law_step"]) (λ _ _ _ _ _ _=>nk (λ _ _ _=>rfl)),F50,Lq X G a50,F50.binds (ps:=["_law_blocks", "_law_paces", "_law_steps"]) (λ _ _ _ _ _ _=>nk (λ _ _ _=>rfl)),F51,Lq X G a51,F51.binds (ps:=["_law_found", "_law_one", "_law_other", "_law_goal", "_law_meet_here"]) (λ _ _ _ _ _ _=>KA (λ _ _ _ _ _=>rfl)),F52,Lq X G a52,F52.binds (ps:=["_law_script"]) (λ _ _ _ _ _ _=>nt (λ _=>rfl)),LC X G z0,LC X G z1,LC X G z2,LC X G z3,LC X G z4,LC X G z5,LC X G z6,LC X G z7,LC X G z8,LC X G z9,LC X G z10,LC X G z11,LC X G z12,LC X G z13,LC X G z14,LC X G z15,LC X G z16,LC X G z17⟩;exact⟨W.fnOf "law" "law" (cY jS) (b9 jS) (aa jS) .none kV52 dc52 pm52 an52 cd52 ct52,λ s v=>.of_eq rfl,λ base _ _=>Fc T⟩
theorem KS{l:W.OpenLaw}{q:Program}{loose:List Str}{XP:(Str->Option Value)->Heap->Prop}{YP:World->Heap->Prop}{d:DefRec}{K:Params->W.Frag}(hn:l.most=some 63)(hdf:d.params.defaults=[])
  (hY:∀ (w:World) (h:Heap),YP w h->(K w.params).In h)
  (F:∀ (w:World) (mg:Str->Option Value) (fa:Addr) (h:Heap),(K w.params).In h->h.Ns mainGlobals mg->mg d.name=some (.ref fa) →
   ∃ fd:FuncData,(∀ (s:Shared) (u:Value),BindsTo s fd ⟨[u],[]⟩ [("_law_script",u)])/\∀ base:Heap,(K w.params).In base->base.Ns mainGlobals mg->bC l.prog w (K w.params) mg base CX0 9 fa fd ["_law_script"] (sV (K w.params))) :
  W.WalkO q loose XP YP l.row.toRowW d [] (λ f vs=>PySem.call f vs):=
 L2.Jo (n:=63) (k:=9) (x := "_law_script") (CX:=λ _=>CX0) (sp:=λ w=>sV (K w.params)) hn ⋯ hdf ⟨rfl,by decide,by decide⟩ hY F (λ _ _ a ns hl _ hS=>⟨a,rfl,ns,hS,hl,λ _=>rfl⟩) λ _ _ _ _ _ z=>z
end PH
namespace PySem.W.Fast
def tw9225958418814260357:=0
def tw10047712610651479422:=0
def tw14756952829450581364:=0
def tw13339216364726847649:=0
def tw9009735855088033283:=0
def tw9280480060384206568:=0
def tw13484568245788208205:=0
def tw1820075772699400391:=0
def tw8287937063759321464:=0
def tw12961682778782385366:=0
def tw5928669022470955559:=0
def tw11268178222589886940:=0
def tw13063260839131614884:=0
def tw5805463673483034695:=0
def tw12380787743006758984:=0
def tw7271512436582834706:=0
def tw142287310674687154:=0
def tw15683070108056142363:=0
def tw15806527725859457577:=0
def tw18434369321648010716:=0
def tw15070233513413413311:=0
def tw12276149871136637375:=0
def tw4795324800121886697:=0
def tw18162336755962645669:=0
def tw4820617514868750394:=0
def tw2614512672535530239:=0
def tw8488563443090563780:=0
def tw14652276259786688912:=0
def tw17489616314186098908:=0
def tw17440942681493094433:=0
def tw14506446616044792336:=0
def tw13672914364000400646:=0
def tw6635695419544058562:=0
def tw8286100027381608577:=0
def tw11452443315405809151:=0
def tw8516355011652769036:=0
def tw16407476771743040753:=0
def tw1263298982858589904:=0
def tw14006073053584087687:=0
def tw4077878454985003008:=0
def tw16624576117128937302:=0
def tw4438120684773332473:=0
def tw5586811787115760931:=0
def tw15425335848614657764:=0
def tw11415770477074870496:=0
def tw16942060564981187789:=0
def tw5259949463882992019:=0
def tw8538462255973032674:=0
def tw15736455606576261647:=0
def tw16241492913045085357:=0
def tw10216330070249718429:=0
def tw6378483232436979761:=0
def tw4887828486185550771:=0
def tw260396740688208736:=0
def tw669168886042064793:=0
def tw8707283979109706755:=0
def tw6327802434064555787:=0
def tw6419675396699397075:=0
def tw1983573339669412288:=0
def tw819235668659327964:=0
def tw14205655831422503261:=0
def tw14807663877078609215:=0
def tw9078352807644221404:=0
def tw16722609682769365393:=0
def tw3152304555228786664:=0
def tw12625718817489770092:=0
def tw1123818715727111142:=0
def tw16419886168123845996:=0
def tw3175478189919841164:=0
def tw16681042393574612511:=0
def tw18264177766944914650:=0
def tw8387257662394918901:=0
def tw14163953460553525028:=0
def tw14554687900802440598:=0
def tw7731601639430917114:=0
def tw3051346486895700490:=0
def tw5317782699188370525:=0
def tw10022475013834836830:=0
def tw14995939843598741130:=0
def tw16041916589062076781:=0
def tw12682954012167779403:=0
def tw14309327083491569189:=0
def tw11851962665538741559:=0
def tw15514607480954173312:=0
def tw14309542899680979087:=0
def tw8356816261677568453:=0
def tw592964742012242800:=0
def tw17829593556147760289:=0
def tw15716969950353686346:=0
def tw12500810579161522075:=0
def tw12731835881451263196:=0
def tw17468202041587310858:=0
def tw5255684725414416643:=0
def tw867637119759555411:=0
def tw15635357430304165198:=0
def tw7324549517565415088:=0
def tw10967904735443230899:=0
def tw4639306813175334660:=0
def tw4858961473590672532:=0
def tw7514663026394778942:=0
def tw7535135704806011256:=0
def tw320231027789385964:=0
def tw11537801463075718546:=0
def tw2659504509174258570:=0
def tw5865922062902682858:=0
def tw10689169462922242369:=0
def tw17046200941575482103:=0
def tw4931257811966836116:=0
def tw16931828473553650998:=0
def tw5716228070242302444:=0
def tw14504353937515673120:=0
end PySem.W.Fast
open PySem PySem.W PyProof.Rows
theorem PySem.Challenge.cw_pacehall_k59_whole_blocks_of_one_whole_holds : PySem.Challenge.rw_pacehall_k59_whole_blocks_of_one_whole.Holds := by
 w_on;o_law;k_head;(case hw=>w_witness2)
 k_fill
 refine PH.KS (l:=PySem.Challenge.rw_pacehall_k59_whole_blocks_of_one_whole) rfl rfl (λ w h Y=>PySem.W.kIn_of Y) ?F
 case F=>
  intro w mg fa h KX G hmg
  refine' PH.Kg KX G hmg ?y0 ?y1 ?y2 ?y3 ?y4 ?y5 ?a0 ?F0 ?a1 ?F1 ?a2 ?F2 ?a3 ?F3 ?a4 ?F4 ?a5 ?F5 ?a6 ?F6 ?a7 ?F7 ?a8 ?F8 ?a9 ?F9 ?a10 ?F10 ?a11 ?F11 ?a12 ?F12 ?a13 ?F13 ?F14 ?F15 ?F16 ?F17 ?F18 ?F19 ?a20 ?F20 ?a21 ?F21 ?a22 ?F22 ?a23 ?F23 ?a24 ?F24 ?a25 ?F25 ?a26 ?F26 ?a27 ?F27 ?a28 ?F28 ?a29 ?l29 ?q29 ?c29 ?k29 ?a30 ?F30 ?a31 ?F31 ?a32 ?F32 ?a33 ?F33 ?a34 ?F34 ?a35 ?F35 ?a36 ?F36 ?a37 ?F37 ?a38 ?F38 ?a39 ?F39 ?a40 ?F40 ?a41 ?F41 ?a42 ?F42 ?a43 ?F43 ?a44 ?F44 ?a45 ?F45 ?a46 ?F46 ?a47 ?F47 ?a48 ?F48 ?a49 ?F49 ?a50 ?F50 ?a51 ?F51 ?a52 ?l52 ?c52 ?k52 ?pg_View ?hd_View ?po_View ?sa_View ?nf_View_axes ?nf_View_first ?nf_View_room ?fi_View___init__ ?fn_View___init__ ?mm_View ?ck_View ?fi_View_sizes ?fn_View_sizes ?fi_View_paces ?fn_View_paces ?fi_View_cell ?fn_View_cell ?fi_View_least ?fn_View_least ?fi_View_greatest ?fn_View_greatest ?w0 ?w1 ?w2 ?w3 ?z0 ?z1 ?z2 ?z3 ?z4 ?z5 ?z6 ?z7 ?z8 ?z9 ?z10 ?z11 ?z12 ?z13 ?z14 ?z15 ?z16 ?z17
  (case y0|y1|y2|y3|y4|y5|fi_View___init__|fi_View_sizes|fi_View_paces|fi_View_cell|fi_View_least|fi_View_greatest=>first|k_is|k_exc|kts_exm|decide|rfl|decide +kernel|kernel_rfl)
  (case a0|a1|a2|a3|a4|a5|a6|a7|a8|a9|a10|a11=>first|k_is|k_exc|kts_exm|decide|rfl|decide +kernel|kernel_rfl)
  (case a12|a13|a20|a21|a22|a23|a24|a25|a26|a27|a28|a29=>first|k_is|k_exc|kts_exm|decide|rfl|decide +kernel|kernel_rfl)
  (case a30|a31|a32|a33|a34|a35|a36|a37|a38|a39|a40|a41=>first|k_is|k_exc|kts_exm|decide|rfl|decide +kernel|kernel_rfl)
  (case a42|a43|a44|a45|a46|a47|a48|a49|a50|a51|a52=>first|k_is|k_exc|kts_exm|decide|rfl|decide +kernel|kernel_rfl)
  (case F0|F1|F2|F3|F4|F5|F6|F7|F8|F9|F10|F11=>(refine' L2.GZ ?l ?c ?k;(case l|c|k=>first|k_is|k_exc|kts_exm|decide|rfl|decide +kernel|kernel_rfl)))
  (case F12|F13|F14|F15|F16|F17|F18|F19|F20|F21|F22|F23=>(refine' L2.GZ ?l ?c ?k;(case l|c|k=>first|k_is|k_exc|kts_exm|decide|rfl|decide +kernel|kernel_rfl)))
  (case F24|F25|F26|F27|F28|F30|F31|F32|F33|F34|F35|F36=>(refine' L2.GZ ?l ?c ?k;(case l|c|k=>first|k_is|k_exc|kts_exm|decide|rfl|decide +kernel|kernel_rfl)))
  (case F37|F38|F39|F40|F41|F42|F43|F44|F45|F46|F47|F48=>(refine' L2.GZ ?l ?c ?k;(case l|c|k=>first|k_is|k_exc|kts_exm|decide|rfl|decide +kernel|kernel_rfl)))
  (case F49|F50|F51=>(refine' L2.GZ ?l ?c ?k;(case l|c|k=>first|k_is|k_exc|kts_exm|decide|rfl|decide +kernel|kernel_rfl)))
  (case l29|q29|c29|k29|l52|c52|k52|pg_View|hd_View|po_View|sa_View|nf_View_axes=>first|k_is|k_exc|kts_exm|decide|rfl|decide +kernel|kernel_rfl)
  (case nf_View_first|nf_View_room|fn_View___init__|mm_View|ck_View|fn_View_sizes|fn_View_paces|fn_View_cell|fn_View_least|fn_View_greatest|w0|w1=>first|k_is|k_exc|kts_exm|decide|rfl|decide +kernel|kernel_rfl)
  (case w2|w3|z0|z1|z2|z3|z4|z5|z6|z7|z8|z9=>first|k_is|k_exc|kts_exm|decide|rfl|decide +kernel|kernel_rfl)
  (case z10|z11|z12|z13|z14|z15|z16|z17=>first|k_is|k_exc|kts_exm|decide|rfl|decide +kernel|kernel_rfl)
#print axioms PySem.Challenge.cw_pacehall_k59_whole_blocks_of_one_whole_holds