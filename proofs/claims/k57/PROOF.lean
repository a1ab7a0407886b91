import PyProof.Rows.All
import Wide.All
import OpenK.AllK
import Wide.FinOn
import Lean
import PyProof.EqAt
import PyProof.EqKinds
import PyProof.TupleCall
import PySem.Challenge.RW_pacehall_k57_whole_cells_meet
set_option Elab.async false
set_option linter.all false
set_option maxRecDepth 100000
set_option maxHeartbeats 0
open List (mem_cons_self mem_cons_of_mem mem_append_left mem_append_right length_cons map_cons length_map append_nil of_mem_zip length_take getElem?_append_right getElem?_append_left getElem?_map mem_of_getElem? length_append size_toArray length_drop length_set any_cons length_singleton length_reverse map_nil find?_cons length_nil getElem_mem getElem?_eq_getElem lookup_cons mem_cons not_mem_nil take_of_length_le take_length length_zip take_add_one length_range sum_cons map_map getD_eq_getElem?_getD map_append append_assoc)
namespace QL
def Kk:=@List.getElem?_eq_getElem
def Kl:=@PySem.wpAny_bind
def Km:=@List.getElem?_eq_some_iff
def Kn:=@PySem.Heap.get?_push_of_some
def Ko:=@List.mem_cons_of_mem
def Kp:=@List.mem_cons_self
def Kq:=@Nat.le_refl
def Kr:=@List.length_map
def Ks:=@if_neg
def Kt:=@PySem.Heap.lt_size
def Ku:=@List.length_append
def Kv:=@PySem.wpAny_pure
def Kw:=@Bool.false_ne_true
def Kx:=@if_pos
def Ky:=@List.getD_eq_getElem?_getD
def Kz:=@PySem.Heap.get?_push_size
def KA:=@Option.map_eq_some_iff
def KC:=@Nat.lt_of_lt_of_le
def KD:=@decide_eq_false
def KG:=@List.mem_map
def KH:=@List.getElem?_map
def KI:=@Int.mul_le_mul_of_nonneg_left
def KJ:=@List.size_toArray
def KL:=@Nat.ne_of_lt
def KN:=@decide_eq_true
def KO:=@PySem.W.mg_of
def KP:=@PySem.PassesOwn.never
def KQ:=@List.mem_singleton
def KR:=@List.getElem?_append_right
def KS:=@List.mem_cons
def KU:=@List.mem_append_right
def KW:=@List.length_singleton
def KY:=@List.length_cons
def KZ:=@List.map_cons
def K0:=@PySem.F.plainAttrs_list
def K1:=@Int.eq_ofNat_of_zero_le
def K2:=@Option.some.inj
def K3:=@Int.le_refl
def K4:=@List.mem_append
def K5:=@List.mem_range
def K6:=@Ne.symm
def K7:=@PySem.W.mg_none_of
def K8:=@List.not_mem_nil
def K9:=@Int.zero_add
def La:=@Int.toNat_natCast
def Lb:=@List.nodup_cons
def Lc:=@List.getElem?_append_left
def Ld:=@List.getElem?_zip_eq_some
def Le:=@Nat.le_trans
def Lf:=@Int.mul_le_mul_of_nonneg_right
def Lg:=@Int.emod_nonneg
def Lh:=@List.map_map
def Li:=@PySem.wpAny_truthy_bool
def Lj:=@PySem.wpAny_field
def Lk:=@Nat.zero_le
def Ll:=@List.mem_append_left
def Lm:=@List.length_take
def Ln:=@Int.mul_comm
def Lo:=@List.mem_filter
def Lp:=@List.take_of_length_le
def Lq:=@List.length_zip
def Lr:=@PySem.Heap.size_push
def Ls:=@PySem.wpAny_newObj_type
def Lu:=@List.getElem_mem
def Lv:=@congrArg
def Lw:=@List.length_range
def Lx:=@List.take_length
def Ly:=@Int.mul_zero
def Lz:=@Int.add_zero
def LA:=@or_false
def LB:=@List.take_add_one
def LC:=@Int.emod_lt_of_pos
def LD:=@PySem.wpAny_callSpecial?_slot
def LF:=@PyProof.Rows.callWith_type1
def LG:=@List.getElem?_eq_none
def LH:=@PySem.wpAny_seqItems
def LI:=@Nat.lt_irrefl
def LJ:=@Int.mul_assoc
def LK:=@PySem.wpAny_setField_rec
def LL:=@Int.fdiv_eq_ediv_of_nonneg
def LM:=@List.mem_of_getElem?
def LN:=@List.lookup_cons
def LO:=@PySem.wpAny_passesOwn
def LP:=@Int.mul_le_mul
def LQ:=@List.map_append
def LR:=@Nat.lt_succ_self
def LS:=@List.all_eq_true
def LU:=@beq_eq_false_iff_ne
def LV:=@PySem.mem_of_lookup
def LW:=@Array.length_toList
def LX:=@PySem.F.slot_tuple_iterator_next
def LY:=@List.length_reverse
def LZ:=@Option.map_some
def L3:=@Bool.eq_iff_iff
def L4:=@PySem.wpAny_call_entry
def L5:=@List.drop_of_length_le
def L6:=@PyProof.Rows.slot_tuple_getitem
def L7:=@PySem.wpAny_Call_Name_kw
def L8:=@PySem.W.kia_one
def L9:=@List.mem_iff_getElem?
def Ma:=@Nat.le_add_right
def Mb:=@Bool.and_eq_true
def Mc:=@List.length_drop
def Md:=@List.append_nil
def Me:=@List.append_assoc
def Mf:=@List.map_congr_left
def Mg:=@Nat.succ.inj
def Mh:=@Nat.lt_trans
def Mi:=@Nat.le_of_lt
def Mj:=@List.zip_cons_cons
def Ml:=@List.filter_append
def Mm:=@PySem.wpAny_holding
def Mn:=@List.of_mem_zip
def Mo:=@List.length_nil
def Mp:=@List.drop_eq_getElem_cons
def Mq:=@PySem.F.type_list_append
def Mr:=@PySem.F.slot_list_append
def Ms:=@PySem.F.args_tuple_add_2
def Mt:=@List.sum_cons
def Mu:=@PySem.F.entry_tuple_add
def Mv:=@List.length_eq_zero_iff
def Mw:=@List.getElem?_replicate
def Mx:=@Int.mul_one
def My:=@Int.emod_eq_zero_of_dvd
def Mz:=@PySem.codeAny_mono
def MB:=@Nat.min_eq_right
def MD:=@PySem.F.slot_tuple_add
def MF:=@List.find?_cons
def MG:=@PySem.wpAny_pyIter_list
def MH:=@PySem.wpAny_mono
def MI:=@PySem.F.type_list_pop
def MJ:=@PySem.F.slot_list_pop
def MK:=@PySem.F.slot_dict_get
def ML:=@Nat.ne_of_gt
def MM:=@Nat.min_eq_left
def MN:=@PySem.wpAny_standAt
def MO:=@PySem.Paired.length
def MP:=@List.dropLast_concat
def MQ:=@List.nodup_nil
def MS:=@Bool.and_false
def MU:=@List.getElem?_range
def MV:=@List.filterMap_cons
def MW:=@Int.toNat_of_nonneg
def MX:=@PySem.Calls.callWith_builtin
def MY:=@PySem.wpAny_execs_nil
def MZ:=@List.length_set
def M3:=@Nat.add_sub_cancel
def M4:=@PySem.F.slot_zip_next
def M5:=@PySem.wpAny_updateSeq_pair
def M6:=@if_true
def M7:=@beq_iff_eq
def M8:=@Nat.lt_succ_of_lt
def M9:=@List.reverse_cons
def Na:=@PySem.wpAny_comprehension_free
def Nb:=@Nat.le_total
def Nc:=@List.all_map
def Nd:=@beq_self_eq_true
def Nf:=@Nat.le_of_not_lt
def Ng:=@List.getElem_zip
def Nh:=@List.drop_length
def Ni:=@PySem.wpAny_onRaise
def Nj:=@PySem.tupleKind_room_in1
def Nk:=@List.forIn_cons
def Nl:=@Int.mul_add
def Nm:=@PySem.Calls.spliced_cons
end QL
open QL
namespace L2
open PySem PySem.Spec PyProof.Rows
abbrev Key:=Sum Int Str
def lX:Key->Value->Bool
 | .inl k,v=>Value.isInt k v
 | .inr x,v=>Value.isStrOf x v
def Ka(w:World):Key->Int
 | .inl k=>hashInt k
 | .inr x=>hashStr w x
theorem aN:∀ {k:Key}{v:Value},lX k v=true->(∃ i t,k=Sum.inl i/\v=Value.int i t)\/(∃ x t,k=Sum.inr x/\v=Value.str x t)
 | .inl i,v,h=>by
  obtain⟨t,e⟩:=Value.isInt_shape (k:=i) (v:=v) h;exact .inl ⟨i,t,rfl,e⟩
 | .inr x,v,h=>by
  obtain⟨t,e⟩:=Value.isStrOf_shape (x:=x) (v:=v) h;exact .inr ⟨x,t,rfl,e⟩
theorem wN(i:Int)(t:Tok):lX (.inl i) (.int i t)=true:=by simp [lX,Value.isInt]
theorem wM(x:Str)(t:Tok):lX (.inr x) (.str x t)=true:=by simp [lX,Value.isStrOf]
theorem Gp(a b:Int):decide ((Sum.inl a:Key)=Sum.inl b)=(a == b):=by
 by_cases e:a=b
 ·subst e;simp
 ·have h:¬ (Sum.inl a:Key)=Sum.inl b:=λ q=>e (Sum.inl.inj q);rw [KD h];exact(LU.mpr e).symm
theorem Gk(a b:Str):decide ((Sum.inr a:Key)=Sum.inr b)=decide (a=b):=by
 by_cases e:a=b
 ·subst e;simp
 ·have h:¬ (Sum.inr a:Key)=Sum.inr b:=λ q=>e (Sum.inr.inj q);rw [KD h,KD e]
theorem Gn(a:Int)(b:Str):decide ((Sum.inl a:Key)=Sum.inr b)=false:=KD (λ q=>nomatch q)
theorem Gm(a:Str)(b:Int):decide ((Sum.inr a:Key)=Sum.inl b)=false:=KD (λ q=>nomatch q)
def bj(prog:Program)(w:World):PySem.KeyKind prog w Key where
 is:=lX
 hash:=Ka w
 inj:=λ v a b ha hb=>by
  rcases aN ha with ⟨i,t,rfl,rfl⟩|⟨x,t,rfl,rfl⟩
  ·rcases aN hb with ⟨j,u,rfl,e⟩|⟨y,u,rfl,e⟩
   ·injection e with e1 _;rw [e1]
   ·exact nomatch e
  ·rcases aN hb with ⟨j,u,rfl,e⟩|⟨y,u,rfl,e⟩
   ·exact nomatch e
   ·injection e with e1 _;rw [e1]
 byValue:=λ k v h=>by
  rcases aN h with ⟨i,t,rfl,rfl⟩|⟨x,t,rfl,rfl⟩<;>rfl
 pyHash:=λ hv h=>by
  rcases aN hv with ⟨i,t,rfl,rfl⟩|⟨x,t,rfl,rfl⟩
  ·exact wpAny_pyHash_int h
  ·exact wpAny_pyHash_str h
 eqBool:=λ hu hv h=>by
  rcases aN hu with ⟨i,t,rfl,rfl⟩|⟨x,t,rfl,rfl⟩
  ·rcases aN hv with ⟨j,u,rfl,rfl⟩|⟨y,u,rfl,rfl⟩
   ·rw [Gp] at h;exact wpAny_eqBool_int h
   ·rw [Gn] at h;exact SeqAt.EqAt.int_str i t y u _ _ _ _ h
  ·rcases aN hv with ⟨j,u,rfl,rfl⟩|⟨y,u,rfl,rfl⟩
   ·rw [Gm] at h;exact SeqAt.EqAt.str_int x t j u _ _ _ _ h
   ·rw [Gk] at h;exact wpAny_eqBool_str h
 «strs»:=λ k x t v h=>by
  rcases aN h with ⟨i,u,rfl,e⟩|⟨y,u,rfl,e⟩
  ·exact nomatch e
  ·injection e with e1 _
   subst e1
   cases v<;>rfl
theorem oW(prog:Program)(w:World)(i:Int)(t:Tok):(bj prog w).is (.inl i) (.int i t)=true:=wN i t
theorem oV(prog:Program)(w:World)(x:Str)(t:Tok):(bj prog w).is (.inr x) (.str x t)=true:=wM x t
inductive V where
 | non|bl (b:Bool)|int (i:Int)|str (x:Str)|byt (b:Array UInt8)|flt (b:UInt64)|ref (a:Addr)|ty (n:String)
 deriving DecidableEq
def bo:V->Value->Prop
 | .non,u=>u=Value.none
 | .bl b,u=>u=Value.bool b
 | .int i,u=>∃ t,u=Value.int i t
 | .str x,u=>∃ t,u=Value.str x t
 | .byt b,u=>∃ t,u=Value.bytes b t
 | .flt b,u=>∃ t,u=Value.float b t
 | .ref a,u=>u=Value.ref a
 | .ty n,u=>u=Value.type n
abbrev aX:List V->List Value->Prop:=Paired bo
theorem aX.length{xs:List V}{us:List Value}(r:aX xs us):xs.length=us.length:=MO r
theorem aX.get:∀ {xs:List V}{us:List Value}{i:Nat}{x:V},aX xs us->xs[i]? = some x->∃ u,us[i]? = some u/\bo x u
 | _,_,_,_,.nil,e=>by simp at e
 | _,_,0,_,.cons r _,e=>by simp at e;subst e;exact⟨_,rfl,r⟩
 | _,_,i+1,x,.cons _ t,e=>by
  obtain⟨u,h1,h2⟩:=aX.get (i:=i) (x:=x) t (by simpa using e);exact⟨u,by simpa using h1,h2⟩
theorem aX.set{x:V}{u:Value}(r:bo x u):∀ {xs:List V}{us:List Value}(i:Nat),aX xs us->aX (xs.set i x) (us.set i u)
 | _,_,_,.nil=>.nil
 | _,_,0,.cons _ t=>.cons r t
 | _,_,i+1,.cons q t=>.cons q (aX.set r i t)
theorem aX.append:∀ {xs ys:List V}{us ws:List Value},aX xs us->aX ys ws->aX (xs++ys) (us++ws)
 | _,_,_,_,.nil,s=>s
 | _,_,_,_,.cons r t,s=>.cons r (aX.append t s)
theorem aX.take:∀ {xs:List V}{us:List Value}(n:Nat),aX xs us->aX (xs.take n) (us.take n)
 | _,_,0,_=>.nil
 | _,_,_+1,.nil=>.nil
 | _,_,n+1,.cons r t=>.cons r (aX.take n t)
theorem aX.drop:∀ {xs:List V}{us:List Value}(n:Nat),aX xs us->aX (xs.drop n) (us.drop n)
 | _,_,0,r=>r
 | _,_,_+1,.nil=>.nil
 | _,_,n+1,.cons _ t=>aX.drop n t
def lT:Option V->Option Value->Prop
 | some v,some u=>bo v u
 | none,none=>True
 | _,_=>False
def KV{κ:Type}:List (κ × V)->List (κ × Value)->Prop:=Paired λ (p:κ × V) (q:κ × Value)=>p.1=q.1/\bo p.2 q.2
def kV:Key->V
 | .inl i=>.int i
 | .inr x=>.str x
inductive HO where
 | lst (xs:List V)
 | tup (xs:List V)
 | dK (kvs:List (Key × V))|dT (kvs:List (List Key × V))
 | set (S:Int->Bool) (n:Nat)
 | ins (C dx:Addr) (fs:List (Str × V))
 | own (x:Addr)
 | xd (fs:List (Str × V))
 | met (f x:Addr)
 | rng (lo hi:Int)
 | frz (o:Obj) (u:HO)
 | tbl (ps:Array Value)
 | ext (φ:Heap->Prop)
abbrev Hp:=Addr->Option HO
def upd(H:Hp)(a:Addr)(o:HO):Hp:=λ b=>if b=a then some o else H b
theorem aj{H:Hp}{a:Addr}{o:HO}:upd H a o a=some o:=by unfold upd;rw [if_pos rfl]
theorem ak{H:Hp}{a b:Addr}{o:HO}(h:b ≠ a):upd H a o b=H b:=by unfold upd;rw [if_neg h]
theorem A5{H:Hp}{a:Addr}{o u:HO}:upd (upd H a o) a u=upd H a u:=by
 funext b;unfold upd;split<;>rfl
theorem HR{H:Hp}{a b:Addr}{o u:HO}(h:H a=some o)(h':H b=some u)(d:o ≠ u):a ≠ b:=by
 intro e;subst e;rw [h] at h';exact d (K2 h')
theorem bK{H:Hp}{a b:Addr}{o:HO}(h:H a=some o)(h':H b=none):a ≠ b:=by
 intro e;subst e;rw [h] at h';cases h'
section
variable (P:Program)(w:World)
def b5(H:Hp)(h:Heap)(a:Addr):HO->Prop
 | .lst xs=>xs.length<=sizeLine/\∃ (its:List Value) (n:Nat),aX xs its/\h.get? a=some { cls:=.type "list",data:=.seq its.toArray n }
 | .tup xs=>xs.length<=sizeLine/\∃ its:List Value,aX xs its/\IsTup h a its.toArray
 | .dK kvs=>kvs.length<=sizeLine/\(a == sysModules)=false/\∃ vs,KV kvs vs/\h.DictOf (bj P w) a vs
 | .dT kvs=>kvs.length<=sizeLine/\(a == sysModules)=false/\∃ xs:List (List Key × Addr × Value),
   Paired (λ (p:List Key × V) (q:List Key × Addr × Value)=>p.1=q.1/\H q.2.1=some (.tup (p.1.map kV))/\bo p.2 q.2.2) kvs xs /\
   ∃ o es ep,h.get? a=some o/\o.ExactDict/\o.data=.dict es ep/\es.toList=xs.map (entryOfKey (tupleKind (bj P w)))/\(xs.map (·.1)).Nodup
 | .set S n=>h.SetOf (intKind P w) a S n
 | .ins C dx fs=>H dx=some (.own a)/\fs.length<=1000/\dx ≠ a/\h.get? a=some (W.instObj C dx) /\
   ∃ mA,h.Ns1 dx mA/\(∀ f,lT (fs.lookup f) (mA f))/\PySem.Within mA (fs.map (·.1))
 | .own _=>∃ o,h.get? a=some o
 | .xd fs=>∃ mA,h.Ns1 a mA/\∀ f,lT (fs.lookup f) (mA f)
 | .rng lo hi=>∃ t u v,h.get? a=some { cls:=.type "range",data:=.fields #[.int lo t,.int hi u,.int 1 v] }
 | .frz o u=>h.get? a=some o/\b5 H h a u
 | .tbl ps=>h.get? a=some { cls:=.none,data:=.fields ps }
 | .met f x=>h.get? a=some (W.methodObj (.ref f) (.ref x))
 | .ext φ=>φ h/\(∃ o,h.get? a=some o)/\∀ h1 h2:Heap,φ h1->(∀ o,h1.get? a=some o->h2.get? a=some o)->φ h2
def HOk(H:Hp)(h:Heap):Prop:=∀ a o,H a=some o->b5 P w H h a o
end
section
variable {P:Program}{w:World}{H H':Hp}{h h':Heap}{a:Addr}{o:HO}
theorem b5.lt(x:b5 P w H h a o):a < h.objs.size:=by
 cases o with
 | lst xs=>obtain⟨_,_,_,_,e⟩:=x;exact Kt e
 | tup xs=>obtain⟨_,_,_,p⟩:=x;exact p.lt
 | dK kvs=>obtain⟨_,_,_,_,o,_,_,e,_⟩:=x;exact Kt e
 | dT kvs=>obtain⟨_,_,_,_,o,_,_,e,_⟩:=x;exact Kt e
 | set S n=>obtain⟨o,_,_,_,e,_⟩:=x;exact Kt e
 | ins C dx fs=>obtain⟨_,_,_,e,_⟩:=x;exact Kt e
 | own y=>obtain⟨_,e⟩:=x;exact Kt e
 | xd fs=>obtain⟨_,⟨_,_,_,e,_⟩,_⟩:=x;exact Kt e
 | rng lo hi=>obtain⟨_,_,_,e⟩:=x;exact Kt e
 | frz ob u=>obtain⟨e,_⟩:=x;exact Kt e
 | tbl ps=>exact Kt (show h.get? a=some _ from x)
 | met f y=>exact Kt (show h.get? a=some _ from x)
 | ext φ=>obtain⟨_,⟨_,e⟩,_⟩:=x;exact Kt e
theorem Paired.mapP{α β:Type}{F G:α->β->Prop}:∀ {l₁:List α}{l₂:List β},Paired F l₁ l₂->(∀ a b,F a b->G a b)->Paired G l₁ l₂
 | _,_,.nil,_=>.nil
 | _,_,.cons r t,f=>.cons (f _ _ r) (Paired.mapP t f)
theorem b5.stay(x:b5 P w H h a o)(k:∀ b u,(b=a\/H b=some (.own a))->h.get? b=some u->h'.get? b=some u)
  (ho:∀ b,H b=some (.own a)->H' b=some (.own a)) (ht:∀ b xs,H b=some (.tup xs)->H' b=some (.tup xs)):b5 P w H' h' a o:=by
 induction o with
 | lst xs=>obtain⟨z,its,n,r,e⟩:=x;exact⟨z,its,n,r,k _ _ (.inl rfl) e⟩
 | tup xs=>obtain⟨z,its,r,ob,e,c⟩:=x;exact⟨z,its,r,ob,k _ _ (.inl rfl) e,c⟩
 | dK kvs=>obtain⟨z,y,vs,r,ob,es,ep,e,c⟩:=x;exact⟨z,y,vs,r,ob,es,ep,k _ _ (.inl rfl) e,c⟩
 | dT kvs=>
  obtain⟨z,y,xs,r,ob,es,ep,e,c⟩:=x;exact⟨z,y,xs,Paired.mapP r λ p q z=>⟨z.1,ht _ _ z.2.1,z.2.2⟩,ob,es,ep,k _ _ (.inl rfl) e,c⟩
 | set S n=>obtain⟨ob,es,ep,t,e,c⟩:=x;exact⟨ob,es,ep,t,k _ _ (.inl rfl) e,c⟩
 | ins C dx fs=>
  obtain⟨d,z,ne,e,mA,⟨od,es,ep,e2,c⟩,r⟩:=x;exact⟨ho _ d,z,ne,k _ _ (.inl rfl) e,mA,⟨od,es,ep,k _ _ (.inr d) e2,c⟩,r⟩
 | own y=>obtain⟨ob,e⟩:=x;exact⟨ob,k _ _ (.inl rfl) e⟩
 | xd fs=>obtain⟨mA,⟨od,es,ep,e,c⟩,r⟩:=x;exact⟨mA,⟨od,es,ep,k _ _ (.inl rfl) e,c⟩,r⟩
 | rng lo hi=>obtain⟨t,u,v,e⟩:=x;exact⟨t,u,v,k _ _ (.inl rfl) e⟩
 | frz ob u ih=>obtain⟨e,q⟩:=x;exact⟨k _ _ (.inl rfl) e,ih q⟩
 | tbl ps=>
  have e:h.get? a=some { cls:=.none,data:=.fields ps }:=x
  show h'.get? a=some { cls:=.none,data:=.fields ps }
  exact k a _ (.inl rfl) e
 | met f y=>
  have e:h.get? a=some (W.methodObj (.ref f) (.ref y)):=x
  show h'.get? a=some (W.methodObj (.ref f) (.ref y))
  exact k a _ (.inl rfl) e
 | ext φ=>obtain⟨p,⟨o,e⟩,st⟩:=x;exact⟨st _ _ p λ o q=>k _ _ (.inl rfl) q,⟨o,k _ _ (.inl rfl) e⟩,st⟩
theorem HOk.lt(x:HOk P w H h)(e:H a=some o):a < h.objs.size:=(x a o e).lt
theorem HOk.fresh(x:HOk P w H h)(e:h.objs.size<=a):H a=none:=by
 cases q:H a with
 | none=>rfl
 | some u=>exact absurd (KC (x.lt q) e) (LI _)
theorem HOk.kept(x:HOk P w H h)(k:∀ b u,h.get? b=some u->h'.get? b=some u):HOk P w H h':=λ a o e=>
 (x a o e).stay (λ b u _ q=>k b u q) (λ _ q=>q) λ _ _ q=>q
theorem HOk.laid(x:HOk P w H h)(k:∀ b u,h.get? b=some u->h'.get? b=some u)(hp:h.objs.size<=a)(new:b5 P w (upd H a o) h' a o):HOk P w (upd H a o) h':=λ b u e=>by
 have hn:=x.fresh hp
 by_cases hb:b=a
 ·subst hb;rw [aj] at e;cases e;exact new
 ·rw [ak hb] at e;exact(x b u e).stay (λ c v _ q=>k c v q) (λ c q=>by rw [ak (bK q hn)];exact q) λ c xs q=>by rw [ak (bK q hn)];exact q
end
def Rd(H:Hp)(a:Addr)(u:HO):Prop:=H a=some u\/∃ o,H a=some (.frz o u)
theorem Rd.ok{P:Program}{w:World}{H:Hp}{h:Heap}{a:Addr}{u:HO}(r:Rd H a u)(x:HOk P w H h):b5 P w H h a u:=by
 rcases r with r|⟨o,r⟩
 ·exact x a u r
 ·obtain⟨_,q⟩:=x a _ r;exact q
def Mut:Option HO->Prop
 | some (.lst _)=>True
 | some (.dK _)=>True
 | some (.dT _)=>True
 | some (.set _ _)=>True
 | some (.ins _ _ _)=>True
 | some (.ext _)=>True
 | _=>False
section
variable {P:Program}{w:World}{H:Hp}{h h':Heap}{x e:Addr}{o':HO}
theorem HOk.write(ok:HOk P w H h)(mu:Mut (H x))(he:e=x\/H e=some (.own x))(k:∀ b u,b ≠ e->h.get? b=some u->h'.get? b=some u)(heo:∃ u,h'.get? e=some u)
  (new:b5 P w (upd H x o') h' x o'):HOk P w (upd H x o') h':=λ b u q=>by
 have nown:∀ c y,H c=some (.own y)->c ≠ x:=λ c y r z=>by subst z;rw [r] at mu;exact mu
 have ntup:∀ c xs,H c=some (.tup xs)->c ≠ x:=λ c xs r z=>by subst z;rw [r] at mu;exact mu
 by_cases hb:b=x
 ·subst hb;rw [aj] at q;cases q;exact new
 ·rw [ak hb] at q
  by_cases hbe:b=e
  ·have q':H b=some (.own x):=by
    rcases he with z|z
    ·exact absurd (hbe.trans z) hb
    ·rw [hbe];exact z
   rw [q] at q';cases q';obtain⟨v,hv⟩:=heo;exact⟨v,by rw [hbe];exact hv⟩
  ·refine(ok b u q).stay (λ c v hc r=>k c v ?_ r) (λ c r=>by rw [ak (nown c b r)];exact r) λ c xs r=>by rw [ak (ntup c xs r)];exact r
   rcases hc with rfl|hc
   ·exact hbe
   ·rintro rfl
    rcases he with z|z
    ·exact nown c b hc z
    ·rw [hc] at z;cases z;exact hb rfl
end
structure Un(fs ex:List Addr)(H H':Hp)(h h':Heap):Prop where
 keep:∀ b o,h.get? b=some o->H b=none->b ∉ fs->b ∉ ex->h'.get? b=some o
 slot:∀ b o,h.get? b=some o->H b=none->b∈fs->b ∉ ex->∃ sl,h'.get? b=some { o with slots:=sl }
 free:∀ b o,h.get? b=some o->H b=none->b ∉ ex->H' b=none
 there:∀ b o,h.get? b=some o->b ∉ ex->∃ o',h'.get? b=some o'
 tups:∀ b xs,H b=some (.tup xs)->H' b=some (.tup xs)
 frzs:∀ b o u,H b=some (.frz o u)->H' b=some (.frz o u)
 tbls:∀ b ps,H b=some (.tbl ps)->∃ more,H' b=some (.tbl (ps++more))
section
variable {fs fs' ex ex':List Addr}{H H1 H2:Hp}{h h1 h2 h':Heap}{a x e:Addr}{o:HO}
theorem Un.any(u:Un fs ex H H1 h h1){b:Addr}{ob:Obj}(q:h.get? b=some ob)(n:H b=none)(hx:b ∉ ex):∃ sl,h1.get? b=some { ob with slots:=sl }:=by
 by_cases hb:b∈fs
 ·exact u.slot b ob q n hb hx
 ·exact⟨ob.slots,u.keep b ob q n hb hx⟩
theorem Un.trans(a:Un fs ex H H1 h h1)(b:Un fs ex H1 H2 h1 h2):Un fs ex H H2 h h2 where
 keep:=λ c ob q n hc hx=>b.keep c ob (a.keep c ob q n hc hx) (a.free c ob q n hx) hc hx
 slot:=λ c ob q n hc hx=>by
  obtain⟨sl,e1⟩:=a.slot c ob q n hc hx;obtain⟨sl',e2⟩:=b.slot c _ e1 (a.free c ob q n hx) hc hx;exact⟨sl',e2⟩
 free:=λ c ob q n hx=>by
  obtain⟨o',e1⟩:=a.there c ob q hx;exact b.free c o' e1 (a.free c ob q n hx) hx
 there:=λ c ob q hx=>by
  obtain⟨o',e1⟩:=a.there c ob q hx;exact b.there c o' e1 hx
 tups:=λ c xs q=>b.tups c xs (a.tups c xs q)
 frzs:=λ c ob xs q=>b.frzs c ob xs (a.frzs c ob xs q)
 tbls:=λ c ps q=>by
  obtain⟨m1,e1⟩:=a.tbls c ps q;obtain⟨m2,e2⟩:=b.tbls c _ e1;exact⟨m1++m2,by rw [e2,Array.append_assoc]⟩
theorem Un.kept(k:∀ b u,h.get? b=some u->h'.get? b=some u):Un fs ex H H h h':=
 ⟨λ b ob q _ _ _=>k b ob q,λ b ob q _ _ _=>⟨ob.slots,k b ob q⟩,λ _ _ _ n _=>n,λ b ob q _=>⟨ob,k b ob q⟩,λ _ _ q=>q,λ _ _ _ q=>q,λ _ ps q=>⟨#[],by rw [q];simp⟩⟩
theorem Un.refl:Un fs ex H H h h:=Un.kept λ _ _ q=>q
theorem Un.laid(k:∀ b u,h.get? b=some u->h'.get? b=some u)(hp:h.objs.size<=a)(hn:H a=none):Un fs ex H (upd H a o) h h' where
 keep:=λ b u q _ _ _=>k b u q
 slot:=λ b u q _ _ _=>⟨u.slots,k b u q⟩
 free:=λ b u q n _=>by rw [ak (KL (KC (Kt q) hp))];exact n
 there:=λ b u q _=>⟨u,k b u q⟩
 tups:=λ b xs q=>by rw [ak (bK q hn)];exact q
 frzs:=λ b u xs q=>by rw [ak (bK q hn)];exact q
 tbls:=λ b ps q=>⟨#[],by rw [ak (bK q hn),q];simp⟩
theorem Un.write(mu:Mut (H x))(he:e=x\/H e=some (.own x))(k:∀ b u,b ≠ e->h.get? b=some u->h'.get? b=some u)(heo:∃ u,h'.get? e=some u):Un fs ex H (upd H x o) h h':=by
 have hx:∀ b,H b=none->b ≠ x:=λ b n z=>by subst z;rw [n] at mu;exact mu
 have hb:∀ b,H b=none->b ≠ e:=λ b n z=>by
  subst z
  rcases he with r|r
  ·exact hx b n r
  ·rw [n] at r;cases r
 have hm:∀ b u,H b=some u->¬ Mut (some u)->b ≠ x:=λ b u q nm z=>by subst z;rw [q] at mu;exact nm mu
 refine⟨λ b u q n _ _=>k b u (hb b n) q,λ b u q n _ _=>⟨u.slots,k b u (hb b n) q⟩,λ b u q n _=>by rw [ak (hx b n)];exact n,λ b u q _=>?_,
  λ b xs q=>by rw [ak (hm b _ q λ z=>z)];exact q,λ b u xs q=>by rw [ak (hm b _ q λ z=>z)];exact q,λ b ps q=>⟨#[],by rw [ak (hm b _ q λ z=>z),q];simp⟩⟩
 by_cases hbe:b=e
 ·subst hbe;exact heo
 ·exact⟨u,k b u hbe q⟩
end
def trk(h:Heap)(H:Hp):List Addr:=(List.range h.objs.size).filter λ a=>(H a).isSome
def xy(h:Heap)(H:Hp):Heap:=W.hideAll h (trk h H)
theorem wU(h:Heap)(H:Hp):(xy h H).objs.size=h.objs.size:=W.hideAll_size _ _
theorem y9{h:Heap}{H:Hp}{b:Addr}{o:Obj}(e:h.get? b=some o)(n:H b=none):(xy h H).get? b=some o:=
 W.hideAll_get _ e λ hm=>by
  have q:(H b).isSome=true:=(Lo.mp hm).2;rw [n] at q;simp at q
theorem BF{h:Heap}{H:Hp}{b:Addr}{o:Obj}(e:(xy h H).get? b=some o):h.get? b=some o/\H b=none:=by
 have e':h.get? b=some o:=W.of_hideAll (trk h H) e;refine⟨e',?_⟩
 cases q:H b with
 | none=>rfl
 | some x=>
  have hm:b∈trk h H:=Lo.mpr ⟨K5.mpr (Kt e'),by simp [q]⟩;have z:(xy h H).get? b=none:=W.hideAll_none (trk h H) hm;rw [z] at e;cases e
def Dg(g h:Heap)(L:Addr):List (Addr × Obj):=(List.range h.objs.size).filterMap λ a=>if a=L\/(g.get? a).isSome=true then none else (h.get? a).map λ o=>(a,o)
def rest(g h:Heap)(L d:Addr):List (Addr × Obj):=(Dg g h L).filter λ p=>decide (p.1 ≠ d)
structure Mod(K:W.Frag)(mg:Str->Option Value)(base:Heap):Prop where
 kin:K.In base
 glob:base.Ns mainGlobals mg
 blt:∃ mb,base.Ns builtinsNs mb/\∀ x:Str,x ≠ "__name__" → mb x=bootBuiltins x
 nolimit:base.NoLimit
structure Cx where
 prog:Program
 w:World
 K:W.Frag
 mg:Str->Option Value
 base:Heap
 A:Around
 N:List Str
 s₀:Shared
 H₀:Hp
 env:Env
 outer:List Env
 stack:List Env
 ex:List Addr
 fn:Str->Bool
 calm:Bool
 pn:List (Addr × Obj)
 xe:Value->Shared->Prop
def frs(l:List Env):List Addr:=l.filterMap (·.frame)
abbrev Cx.fs(X:Cx):List Addr:=frs X.outer
def Vis(sc:Scope)(x:Str):Prop:=sc.names.lookup x=some .local\/sc.names.lookup x=some .cell\/sc.names.lookup x=some .free
def Loc(sc:Scope)(x:Str):Prop:=sc.names.lookup x=some .local\/sc.names.lookup x=some .cell
def Kg(env:Env)(h:Heap)(m:Str->Option Value)(x:Str)(u:Value):Prop:=
 (env.kindOf x=some .local/\m x=some u)\/((env.kindOf x=some .cell\/env.kindOf x=some .free)/\∃ c,env.cells.lookup x=some c/\h.IsCell c (some u))
structure Cx.Ok(X:Cx):Prop where
 mod:Mod X.K X.mg X.base
 kind:X.env.scope.kind=.function
 glob:X.env.globals=mainGlobals
 blt:X.env.builtins=builtinsNs
 above:X.s₀.heap.objs.size<=X.env.locals
 inj:∀ x y c,X.env.cells.lookup x=some c->X.env.cells.lookup y=some c->x=y
 has:∀ x,(X.env.kindOf x=some .cell\/X.env.kindOf x=some .free)->∃ c,X.env.cells.lookup x=some c
 cab:∀ x c,X.fn x=true->X.env.cells.lookup x=some c->X.s₀.heap.objs.size<=c
 hd:X.calm=true->X.A.handled=none
 frames:X.A.frames=some X.stack
 stk:X.stack=X.outer\/(X.stack=X.env::X.outer/\X.env.frame=some X.env.locals)
 exf:∀ b∈X.ex,b ≠ X.env.locals/\∀ x c,X.env.cells.lookup x=some c->c ≠ b
 bs:∀ b o,X.base.get? b=some o->X.s₀.heap.get? b=some o/\X.H₀ b=none
 bsz:X.base.objs.size<=X.s₀.heap.objs.size
 noex:∀ b o,X.base.get? b=some o->b ∉ X.ex
 exfs:∀ b∈X.ex,b ∉ X.fs
 funs:X.s₀.heap.FunFrames X.base X.outer
 frf:∀ b∈X.fs,X.H₀ b=none
structure Inv(X:Cx)(pins:List (Addr × Obj))(σ:List (Option V))(H:Hp)(s:Shared):Prop where
 ok:X.Ok
 os:s.os=X.s₀.os
 bare:AllBare s.gens
 base:Un X.fs X.ex X.H₀ H X.s₀.heap s.heap
 loc:∃ m,s.heap.Ns X.env.locals m/\∀ (i:Nat) (x:Str) (v:V),X.N[i]? = some x->σ[i]? = some (some v)->Vis X.env.scope x->∃ u,bo v u/\Kg X.env s.heap m x u
 cell:∀ x c,X.env.cells.lookup x=some c->∃ v,s.heap.IsCell c v
 free:H X.env.locals=none
 freeC:∀ x c,X.env.cells.lookup x=some c->H c=none
 pin:∀ p∈X.pn++pins,s.heap.get? p.1=some p.2/\H p.1=none/\p.1 ≠ X.env.locals/\p.1 ∉ X.fs/\∀ v,p.2.data ≠ .cell v
 hok:HOk X.prog X.w H s.heap
 len:σ.length=X.N.length
section
variable {X:Cx}{pins:List (Addr × Obj)}{σ:List (Option V)}{H H':Hp}{s:Shared}{h':Heap}
theorem Cx.Ok.nofr(ok:X.Ok){b:Addr}{o:Obj}(e:X.base.get? b=some o):b ∉ X.fs:=λ hb=>by
 have:=(ok.funs.mem hb).1;rw [e] at this;cases this
theorem Inv.bs(I:Inv X pins σ H s):∀ b o,X.base.get? b=some o->s.heap.get? b=some o/\H b=none:=λ b o e=>
 ⟨I.base.keep b o (I.ok.bs b o e).1 (I.ok.bs b o e).2 (I.ok.nofr e) (I.ok.noex b o e),I.base.free b o (I.ok.bs b o e).1 (I.ok.bs b o e).2 (I.ok.noex b o e)⟩
theorem Inv.bk(I:Inv X pins σ H s):∀ b o,X.base.get? b=some o->s.heap.get? b=some o:=λ b o e=>(I.bs b o e).1
theorem Inv.mod(I:Inv X pins σ H s):Mod X.K X.mg X.base:=I.ok.mod
theorem Inv.kIn(I:Inv X pins σ H s):X.K.In s.heap:=I.ok.mod.kin.keeps I.bk
theorem Inv.lt(I:Inv X pins σ H s):X.env.locals < s.heap.objs.size:=let ⟨_,hn,_⟩:=I.loc;hn.lt
theorem Inv.sz(I:Inv X pins σ H s):X.s₀.heap.objs.size<=s.heap.objs.size:=Le I.ok.above (Mi I.lt)
theorem Inv.nofs(I:Inv X pins σ H s){a:Addr}(h:s.heap.objs.size<=a):a ∉ X.fs:=λ hb=>by
 obtain⟨_,o,ho,_⟩:=I.ok.funs.mem hb;exact absurd (KC (Kt ho) (Le I.sz h)) (LI _)
theorem Inv.cne(I:Inv X pins σ H s):∀ x c,X.env.cells.lookup x=some c->c ≠ X.env.locals:=λ x c e z=>by
 obtain⟨v,o,ho,hd⟩:=I.cell x c e;obtain⟨m,⟨o',es,ep,ho',hd',_⟩,_⟩:=I.loc;rw [z,ho'] at ho;cases ho;rw [hd'] at hd;cases hd
theorem Inv.funs(I:Inv X pins σ H s):s.heap.FunFrames X.base X.outer:=by
 have all:∀ (l:List Env),(∀ b∈frs l,b∈X.fs)->X.s₀.heap.FunFrames X.base l->s.heap.FunFrames X.base l:=by
  intro l
  induction l with
  | nil=>intro _ _;trivial
  | cons env r ih=>
   intro hs hl;obtain⟨hk,⟨L,o,hf,hn,ho,hd⟩,hr⟩:=hl;have hL:L∈X.fs:=hs L (by unfold frs;rw [List.filterMap_cons,hf];exact mem_cons_self);obtain⟨sl,e⟩:=I.base.slot L o ho (I.ok.frf L hL) hL λ z=>I.ok.exfs L z hL;exact⟨hk,⟨L,_,hf,hn,e,hd⟩,ih (λ b hb=>hs b (by unfold frs;rw [List.filterMap_cons,hf];exact mem_cons_of_mem _ hb)) hr⟩
 exact all X.outer (λ _ hb=>hb) I.ok.funs
theorem Inv.stack(I:Inv X pins σ H s):s.heap.FunFrames X.base X.stack:=by
 rcases I.ok.stk with e|⟨e,hf⟩
 ·rw [e];exact I.funs
 ·rw [e];obtain⟨m,hn,_⟩:=I.loc;refine .cons (by rw [I.ok.kind];decide) hf hn ?_ I.funs;exact Heap.get?_none_of_le (Le I.ok.bsz I.ok.above)
theorem Inv.stkSub(I:Inv X pins σ H s):∀ b∈frs X.stack,b∈X.env.locals::X.fs:=λ b hb=>by
 rcases I.ok.stk with e|⟨e,hf⟩
 ·rw [e] at hb;exact Ko _ hb
 ·rw [e] at hb;unfold frs at hb;rw [List.filterMap_cons,hf] at hb;exact hb
theorem Inv.stkFree(I:Inv X pins σ H s):∀ b∈frs X.stack,H b=none:=λ b hb=>by
 rcases KS.mp (I.stkSub b hb) with e|hb
 ·rw [e];exact I.free
 ·obtain⟨_,o,ho,_⟩:=I.ok.funs.mem hb;exact I.base.free b o ho (I.ok.frf b hb) λ z=>I.ok.exfs b z hb
theorem Inv.step{g':Array GenState}{t':Nat}{d':Drawn}{ch:List Addr}(I:Inv X pins σ H s)
  (hch:∀ b∈ch,(b∈X.ex\/X.s₀.heap.objs.size<=b)/\b ≠ X.env.locals/\(∀ x c,X.env.cells.lookup x=some c->c ≠ b)/\∀ p∈X.pn++pins,p.1 ≠ b)
  (keep:∀ b o,b ≠ X.env.locals->b ∉ X.fs->b ∉ ch->s.heap.get? b=some o->H b=none->h'.get? b=some o)
  (slot:∀ b o,b ≠ X.env.locals->b∈X.fs->b ∉ ch->s.heap.get? b=some o->H b=none->∃ sl,h'.get? b=some { o with slots:=sl }) (free:∀ b o,b ∉ ch->s.heap.get? b=some o->H b=none->H' b=none)
  (there:∀ b o,b ∉ ch->s.heap.get? b=some o->∃ o',h'.get? b=some o')
  (tups:∀ b xs,H b=some (.tup xs)->H' b=some (.tup xs)) (frzs:∀ b o u,H b=some (.frz o u)->H' b=some (.frz o u)) (tbls:∀ b ps,H b=some (.tbl ps)->∃ more,H' b=some (.tbl (ps++more)))
  (ns:∀ m,s.heap.Ns X.env.locals m->h'.Ns X.env.locals m) (hok:HOk X.prog X.w H' h') (hg:AllBare g') :
  Inv X pins σ H' { s with heap:=h',gens:=g',drawn:=d',toks:=t' }:=by
 have neL:∀ b o,X.s₀.heap.get? b=some o->b ≠ X.env.locals:=λ b o e=>KL (KC (Kt e) I.ok.above)
 have neC:∀ b o,X.s₀.heap.get? b=some o->b ∉ X.ex->b ∉ ch:=λ b o e hx hb=>by
  rcases (hch b hb).1 with z|z
  ·exact hx z
  ·exact absurd (KC (Kt e) z) (LI _)
 have cellK:∀ x c,X.env.cells.lookup x=some c->∀ v,s.heap.IsCell c v->h'.IsCell c v:=λ x c e v ⟨o,ho,hd⟩=>by
  have nch:c ∉ ch:=λ z=>(hch c z).2.2.1 x c e rfl
  by_cases hc:c∈X.fs
  ·obtain⟨sl,q⟩:=slot c o (I.cne x c e) hc nch ho (I.freeC x c e);exact⟨_,q,hd⟩
  ·exact⟨o,keep c o (I.cne x c e) hc nch ho (I.freeC x c e),hd⟩
 refine⟨I.ok,I.os,hg,⟨λ b o e n hb hx=>?_,λ b o e n hb hx=>?_,λ b o e n hx=>?_,λ b o e hx=>?_,λ b xs e=>tups b xs (I.base.tups b xs e),λ b o xs e=>frzs b o xs (I.base.frzs b o xs e),λ b ps e=>?_⟩,?_,λ x c e=>?_,?_,λ x c e=>?_,λ p hp=>?_,hok,I.len⟩
 ·exact keep b o (neL b o e) hb (neC b o e hx) (I.base.keep b o e n hb hx) (I.base.free b o e n hx)
 ·obtain⟨sl,e1⟩:=I.base.slot b o e n hb hx;obtain⟨sl',e2⟩:=slot b _ (neL b o e) hb (neC b o e hx) e1 (I.base.free b o e n hx);exact⟨sl',e2⟩
 ·obtain⟨o',e1⟩:=I.base.there b o e hx;exact free b o' (neC b o e hx) e1 (I.base.free b o e n hx)
 ·obtain⟨o',e1⟩:=I.base.there b o e hx;exact there b o' (neC b o e hx) e1
 ·obtain⟨m1,e1⟩:=I.base.tbls b ps e;obtain⟨m2,e2⟩:=tbls b _ e1;exact⟨m1++m2,by rw [e2,Array.append_assoc]⟩
 ·obtain⟨m,hn,hl⟩:=I.loc;refine⟨m,ns m hn,λ i x v e1 e2 e3=>?_⟩;obtain⟨u,r,l⟩:=hl i x v e1 e2 e3;refine⟨u,r,?_⟩
  rcases l with l|⟨k,c,e,z⟩
  ·exact .inl l
  ·exact .inr ⟨k,c,e,cellK x c e _ z⟩
 ·obtain⟨v,z⟩:=I.cell x c e;exact⟨v,cellK x c e v z⟩
 ·obtain⟨m,⟨o,_,_,ho,_⟩,_⟩:=I.loc;exact free _ o (λ z=>(hch _ z).2.1 rfl) ho I.free
 ·obtain⟨v,o,ho,hd⟩:=I.cell x c e;exact free c o (λ z=>(hch c z).2.2.1 x c e rfl) ho (I.freeC x c e)
 ·obtain⟨e,n,ne,nf,d⟩:=I.pin p hp;have nch:p.1 ∉ ch:=λ z=>(hch p.1 z).2.2.2 p hp rfl;exact⟨keep p.1 p.2 ne nf nch e n,free p.1 p.2 nch e n,ne,nf,d⟩
theorem Inv.un{t':Nat}(I:Inv X pins σ H s)(u:Un X.fs [] H H' s.heap h')(hok:HOk X.prog X.w H' h'):Inv X pins σ H' { s with heap:=h',toks:=t' }:=by
 obtain⟨m,⟨o,es,ep,ho,r⟩,_⟩:=id I.loc;obtain⟨sl,hL⟩:=u.any ho I.free (by simp)
 exact I.step (g':=s.gens) (d':=s.drawn) (ch:=[]) (λ _ z=>nomatch z) (λ b o _ hb _ e n=>u.keep b o e n hb (by simp)) (λ b o _ hb _ e n=>u.slot b o e n hb (by simp)) (λ b o _ e n=>u.free b o e n (by simp)) (λ b o _ e=>u.there b o e (by simp)) u.tups u.frzs u.tbls (λ m' hm=>by
  obtain⟨o',es',ep',ho',r'⟩:=hm;rw [ho] at ho';cases ho';exact⟨_,es',ep',hL,r'⟩) hok I.bare
theorem Inv.call{g':Array GenState}{t':Nat}{d':Drawn}{ch:List Addr}(I:Inv X pins σ H s)(u:Un (frs X.stack) ch H H' s.heap h')(hok:HOk X.prog X.w H' h')(hg:AllBare g')
  (hch:∀ b∈ch,(b∈X.ex\/X.s₀.heap.objs.size<=b)/\b ≠ X.env.locals/\(∀ x c,X.env.cells.lookup x=some c->c ≠ b)/\∀ p∈X.pn++pins,p.1 ≠ b) :
  Inv X pins σ H' { s with heap:=h',gens:=g',drawn:=d',toks:=t' }:=by
 obtain⟨m,⟨o,es,ep,ho,r⟩,_⟩:=id I.loc;obtain⟨sl,hL⟩:=u.any ho I.free λ z=>(hch _ z).2.1 rfl
 exact I.step (ch:=ch) hch (λ b o hL hb hc e n=>u.keep b o e n (λ z=>(KS.mp (I.stkSub b z)).elim hL hb) hc) (λ b o _ _ hc e n=>u.any e n hc) (λ b o hc e n=>u.free b o e n hc) (λ b o hc e=>u.there b o e hc) u.tups u.frzs u.tbls (λ m' hm=>by
  obtain⟨o',es',ep',ho',r'⟩:=hm;rw [ho] at ho';cases ho';exact⟨_,es',ep',hL,r'⟩) hok hg
theorem Inv.turned{t':Nat}{it:Addr}(I:Inv X pins σ H s)(k:∀ b o,b ≠ it->s.heap.get? b=some o->h'.get? b=some o)(hn:H it=none)(hL:it ≠ X.env.locals)
  (h1:it∈X.ex\/X.s₀.heap.objs.size<=it) (h2:∀ x c,X.env.cells.lookup x=some c->c ≠ it) (h3:∀ p∈X.pn++pins,p.1 ≠ it):Inv X pins σ H { s with heap:=h',toks:=t' }:=by
 have nit:∀ b u,H b=some u->b ≠ it:=λ b u e z=>by rw [z,hn] at e;cases e
 refine I.step (g':=s.gens) (d':=s.drawn) (ch:=[it]) (λ b hb=>?_) (λ b o _ _ hc e _=>k b o (λ z=>hc (by simp [z])) e) (λ b o _ _ hc e _=>⟨o.slots,k b o (λ z=>hc (by simp [z])) e⟩) (λ _ _ _ _ n=>n)
  (λ b o hc e=>⟨o,k b o (λ z=>hc (by simp [z])) e⟩) (λ _ _ e=>e) (λ _ _ _ e=>e) (λ b ps e=>⟨#[],by rw [e];simp⟩) (λ m hm=>?_) (λ b u e=>?_) I.bare
 ·have e:b=it:=by simpa using hb
  subst e;exact⟨h1,hL,h2,h3⟩
 ·obtain⟨o,es,ep,ho,r⟩:=hm;exact⟨o,es,ep,k _ o (K6 hL) ho,r⟩
 ·refine(I.hok b u e).stay (λ c v hc q=>k c v ?_ q) (λ _ q=>q) λ _ _ q=>q
  rcases hc with z|z
  ·rw [z];exact nit b u e
  ·exact nit c _ z
theorem Inv.tok(I:Inv X pins σ H s)(t:Nat):Inv X pins σ H { s with toks:=t }:=I.un (h':=s.heap) (t':=t) Un.refl I.hok
theorem Inv.kept{t':Nat}(I:Inv X pins σ H s)(k:∀ b u,s.heap.get? b=some u->h'.get? b=some u):Inv X pins σ H { s with heap:=h',toks:=t' }:=I.un (Un.kept k) (I.hok.kept k)
theorem Inv.laid{a:Addr}{o:HO}{t':Nat}(I:Inv X pins σ H s)(k:∀ b u,s.heap.get? b=some u->h'.get? b=some u)(hp:s.heap.objs.size<=a)(new:b5 X.prog X.w (upd H a o) h' a o) :
  Inv X pins σ (upd H a o) { s with heap:=h',toks:=t' }:=I.un (Un.laid k hp (I.hok.fresh hp)) (I.hok.laid k hp new)
theorem Inv.write{x e:Addr}{o:HO}{t':Nat}(I:Inv X pins σ H s)(mu:Mut (H x))(he:e=x\/H e=some (.own x))(k:∀ b u,b ≠ e->s.heap.get? b=some u->h'.get? b=some u)(heo:∃ u,h'.get? e=some u)
  (new:b5 X.prog X.w (upd H x o) h' x o):Inv X pins σ (upd H x o) { s with heap:=h',toks:=t' }:=I.un (Un.write mu he k heo) (I.hok.write mu he k heo new)
theorem Inv.weak{σ':List (Option V)}(I:Inv X pins σ H s)(hl:σ'.length=σ.length)(w:∀ (i:Nat) v,σ'[i]? = some (some v)->σ[i]? = some (some v)):Inv X pins σ' H s:=
 ⟨I.ok,I.os,I.bare,I.base,let ⟨m,hn,hl'⟩:=I.loc;⟨m,hn,λ i x v e1 e2 e3=>hl' i x v e1 (w i v e2) e3⟩,I.cell,I.free,I.freeC,I.pin,I.hok,hl.trans I.len⟩
theorem Inv.pins_of{pins':List (Addr × Obj)}(I:Inv X pins σ H s)(h:∀ p∈pins',s.heap.get? p.1=some p.2/\H p.1=none/\p.1 ≠ X.env.locals/\p.1 ∉ X.fs/\∀ v,p.2.data ≠ .cell v):Inv X pins' σ H s:=
 ⟨I.ok,I.os,I.bare,I.base,I.loc,I.cell,I.free,I.freeC,λ p hp=>(K4.mp hp).elim (λ z=>I.pin p (Ll _ z)) (h p),I.hok,I.len⟩
theorem qf{N:List Str}(hN:N.Nodup){i j:Nat}{x:Str}(a:N[i]? = some x)(b:N[j]? = some x):i=j:=by
 obtain⟨h1,e1⟩:=Km.mp a;obtain⟨h2,e2⟩:=Km.mp b;exact(List.getElem_inj hN).mp (e1.trans e2.symm)
theorem ml{M:Model}{A:Around}{E:Value->Shared->Prop}{i:Nat}{x:Str}{v:V}{u:Value}{Q:Unit->Shared->Prop}(I:Inv X pins σ H s)(hN:X.N.Nodup)(hi:X.N[i]? = some x)(hx:Loc X.env.scope x)(r:bo v u)
  (h:∀ s',Inv X pins (σ.set i (some v)) H s'->(∃ a,Heap.SameBut a s.heap s'.heap/\(a=X.env.locals\/X.env.cells.lookup x=some a))->Q () s') (hf:X.fn x=true\/X.env.scope.names.lookup x=some .local:=by first|exact .inl rfl|exact .inr rfl|assumption):wpAny M A (storeName X.env x u) Q E s:=by
 obtain⟨m,hn,hl⟩:=id I.loc;have hcls:(X.env.scope.kind == .class || (X.env.scope.kind == .module && X.env.locals != X.env.globals))=false:=by rw [I.ok.kind];rfl
 have hiσ:i < σ.length:=by rw [I.len];exact(Km.mp hi).1
 have cne:=I.cne
 have tracked:∀ {a:Addr} {h':Heap},(∃ o,s.heap.get? a=some o/\H a=none)->Heap.SameBut a s.heap h'->HOk X.prog X.w H h':=λ {a h'} ha hs b ob e=>by
  obtain⟨_,_,hfree⟩:=ha;refine(I.hok b ob e).stay (λ c w' hc q=>(hs.2 c ?_).trans q) (λ _ q=>q) λ _ _ q=>q;rintro rfl
  rcases hc with rfl|hc
  ·rw [hfree] at e;cases e
  ·rw [hfree] at hc;cases hc
 rcases hx with hk|hk
 ·refine wpAny_storeName_local hk hn (λ h' hn' hs=>?_) hcls;obtain⟨oL,_,_,hoL,_⟩:=id hn;refine h _ ⟨I.ok,I.os,I.bare,⟨λ b o e n hb hx=>?_,λ b o e n hb hx=>?_,I.base.free,λ b o e hx=>?_,I.base.tups,I.base.frzs,I.base.tbls⟩,⟨_,hn',λ j y v' e1 e2 e3=>?_⟩,λ y c e=>?_,I.free,I.freeC,λ p hp=>?_,tracked ⟨oL,hoL,I.free⟩ hs,by simpa using I.len⟩ ⟨_,hs,.inl rfl⟩
  ·exact(hs.2 b (KL (KC (Kt e) I.ok.above))).trans (I.base.keep b o e n hb hx)
  ·obtain⟨sl,e1⟩:=I.base.slot b o e n hb hx;exact⟨sl,(hs.2 b (KL (KC (Kt e) I.ok.above))).trans e1⟩
  ·obtain⟨o',e1⟩:=I.base.there b o e hx;exact⟨o',(hs.2 b (KL (KC (Kt e) I.ok.above))).trans e1⟩
  ·by_cases hj:j=i
   ·subst hj;rw [hi] at e1;cases e1;rw [List.getElem?_set_self hiσ] at e2;cases e2;exact⟨u,r,.inl ⟨hk,by simp⟩⟩
   ·rw [List.getElem?_set_ne (K6 hj)] at e2;obtain⟨u',r',q⟩:=hl j y v' e1 e2 e3;refine⟨u',r',?_⟩
    rcases q with ⟨k,e⟩|⟨k,c,e,z⟩
    ·refine .inl ⟨k,?_⟩;have:y ≠ x:=λ e=>hj (qf hN e1 (e ▸ hi));simp [this,e]
    ·exact .inr ⟨k,c,e,z.sameBut hs (cne y c e)⟩
  ·obtain⟨w',z⟩:=I.cell y c e;exact⟨w',z.sameBut hs (cne y c e)⟩
  ·obtain⟨e,n,ne,nf,d⟩:=I.pin p hp;exact⟨(hs.2 p.1 ne).trans e,n,ne,nf,d⟩
 ·have hfn:X.fn x=true:=by
   rcases hf with z|z
   ·exact z
   ·rw [z] at hk;cases hk
  obtain⟨c,hc⟩:=I.ok.has x (.inl hk);obtain⟨w',z⟩:=I.cell x c hc;refine wpAny_storeName_cell I.ok.kind hk hc z (λ h' hc' hs=>?_);obtain⟨oc,hoc,hocd⟩:=id z;refine h { s with heap:=h' } ⟨I.ok,I.os,I.bare,⟨λ b o e n hb hx=>?_,λ b o e n hb hx=>?_,I.base.free,λ b o e hx=>?_,I.base.tups,I.base.frzs,I.base.tbls⟩,⟨m,hn.sameBut hs (K6 (cne x c hc)),λ j y v' e1 e2 e3=>?_⟩,λ y c' e=>?_,I.free,I.freeC,λ p hp=>?_,tracked ⟨oc,hoc,I.freeC x c hc⟩ hs,by simpa using I.len⟩ ⟨c,hs,.inr hc⟩
  ·exact(hs.2 b (KL (KC (Kt e) (I.ok.cab x c hfn hc)))).trans (I.base.keep b o e n hb hx)
  ·obtain⟨sl,e1⟩:=I.base.slot b o e n hb hx;exact⟨sl,(hs.2 b (KL (KC (Kt e) (I.ok.cab x c hfn hc)))).trans e1⟩
  ·obtain⟨o',e1⟩:=I.base.there b o e hx;exact⟨o',(hs.2 b (KL (KC (Kt e) (I.ok.cab x c hfn hc)))).trans e1⟩
  ·by_cases hj:j=i
   ·subst hj;rw [hi] at e1;cases e1;rw [List.getElem?_set_self hiσ] at e2;cases e2;exact⟨u,r,.inr ⟨.inl hk,c,hc,hc'⟩⟩
   ·rw [List.getElem?_set_ne (K6 hj)] at e2;obtain⟨u',r',q⟩:=hl j y v' e1 e2 e3;refine⟨u',r',?_⟩
    rcases q with q|⟨k,c',e,z'⟩
    ·exact .inl q
    ·refine .inr ⟨k,c',e,z'.sameBut hs ?_⟩;rintro rfl;exact hj (qf hN e1 (I.ok.inj _ _ _ e hc ▸ hi))
  ·by_cases hcc:c'=c
   ·subst hcc;exact⟨_,hc'⟩
   ·obtain⟨w2,z2⟩:=I.cell y c' e;exact⟨w2,z2.sameBut hs hcc⟩
  ·obtain⟨e,n,ne,nf,d⟩:=I.pin p hp;refine⟨(hs.2 p.1 ?_).trans e,n,ne,nf,d⟩;intro q;rw [q,hoc] at e;have q':oc=p.2:=K2 e;exact d w' (by rw [←q'];exact hocd)
theorem gO{M:Model}{A:Around}{E:Value->Shared->Prop}{i:Nat}{x:Str}{v:V}{u:Value}{Q:Unit->Shared->Prop}(I:Inv X pins σ H s)(hN:X.N.Nodup)(hi:X.N[i]? = some x)(hx:Loc X.env.scope x)(r:bo v u)
  (h:∀ s',Inv X pins (σ.set i (some v)) H s'->Q () s') (hf:X.fn x=true\/X.env.scope.names.lookup x=some .local:=by first|exact .inl rfl|exact .inr rfl|assumption):wpAny M A (storeName X.env x u) Q E s:=
 ml I hN hi hx r (λ s' I' _=>h s' I') hf
theorem Inv.call'{s':Shared}{ch:List Addr}(I:Inv X pins σ H s)(ho:s'.os=s.os)(u:Un (frs X.stack) ch H H' s.heap s'.heap)(hok:HOk X.prog X.w H' s'.heap)(hg:AllBare s'.gens)
  (hch:∀ b∈ch,(b∈X.ex\/X.s₀.heap.objs.size<=b)/\b ≠ X.env.locals/\(∀ x c,X.env.cells.lookup x=some c->c ≠ b)/\∀ p∈X.pn++pins,p.1 ≠ b):Inv X pins σ H' s':=by
 obtain⟨h',g',d',t',o'⟩:=s';have e:o'=s.os:=ho;subst e;exact I.call (g':=g') (t':=t') (d':=d') u hok hg hch
end
abbrev XK:=Value->Option Addr->Hp->Prop
abbrev St:=List (Option V)
abbrev VK:=V->Hp->Prop
abbrev TE:=St->Hp->VK->Prop
abbrev TT:=St->Hp->(Bool->Hp->Prop)->Prop
abbrev TA:=St->Hp->(List V->Hp->Prop)->Prop
structure pH where
 nx:St->Hp->Prop
 rt:VK
 bk:St->Hp->Prop:=λ _ _=>False
 ct:St->Hp->Prop:=λ _ _=>False
abbrev TS:=pH->St->Hp->Prop
def EP(X:Cx)(pins:List (Addr × Obj))(σ:St)(Q:VK)(u:Value)(s':Shared):Prop:=∃ v H',Inv X pins σ H' s'/\bo v u/\Q v H'
def TP(X:Cx)(pins:List (Addr × Obj))(σ:St)(Q:Bool->Hp->Prop)(b:Bool)(s':Shared):Prop:=∃ H',Inv X pins σ H' s'/\Q b H'
def AP(X:Cx)(pins:List (Addr × Obj))(σ:St)(Q:List V->Hp->Prop)(us:List Value)(s':Shared):Prop:=∃ vs H',Inv X pins σ H' s'/\aX vs us/\Q vs H'
def SP(X:Cx)(pins:List (Addr × Obj))(D:pH)(f:Flow)(s':Shared):Prop:=
 match f with
 | .next=>∃ σ' H',Inv X pins σ' H' s'/\D.nx σ' H'
 | .brk=>∃ σ' H',Inv X pins σ' H' s'/\D.bk σ' H'
 | .cont=>∃ σ' H',Inv X pins σ' H' s'/\D.ct σ' H'
 | .ret u=>∃ v σ' H',Inv X pins σ' H' s'/\bo v u/\D.rt v H'
def PE(X:Cx)(e:Expr)(t:TE):Prop:=
 ∀ (pins:List (Addr × Obj)) (s:Shared) (σ:St) (H:Hp) (Q:VK),Inv X pins σ H s->t σ H Q->wpAny (model X.prog X.w) X.A (eval e X.env) (EP X pins σ Q) X.xe s
def PT(X:Cx)(e:Expr)(t:TT):Prop:=
 ∀ (pins:List (Addr × Obj)) (s:Shared) (σ:St) (H:Hp) (Q:Bool->Hp->Prop),Inv X pins σ H s->t σ H Q->wpAny (model X.prog X.w) X.A (isTrue e X.env (eval e X.env)) (TP X pins σ Q) X.xe s
def PW(X:Cx)(e:Expr)(t:TT):Prop:=
 ∀ (whole:Sem Value) (pins:List (Addr × Obj)) (s:Shared) (σ:St) (H:Hp) (Q:Bool->Hp->Prop),Inv X pins σ H s->t σ H Q->wpAny (model X.prog X.w) X.A (isTrue e X.env whole) (TP X pins σ Q) X.xe s
theorem PW.pt{X:Cx}{e:Expr}{t:TT}(h:PW X e t):PT X e t:=h _
def PA(X:Cx)(es:List Expr)(t:TA):Prop:=
 ∀ (pos:Pos) (pins:List (Addr × Obj)) (s:Shared) (σ:St) (H:Hp) (Q:List V->Hp->Prop),Inv X pins σ H s->t σ H Q->wpAny (model X.prog X.w) X.A (spliced (backTo pos (starEach es X.env))) (AP X pins σ Q) X.xe s
def PS(X:Cx)(st:Stmt)(t:TS):Prop:=
 ∀ (pins:List (Addr × Obj)) (s:Shared) (σ:St) (H:Hp) (D:pH),Inv X pins σ H s->t D σ H->wpAny (model X.prog X.w) X.A (exec st X.env) (SP X pins D) X.xe s
def PSs(X:Cx)(st:List Stmt)(t:TS):Prop:=
 ∀ (pins:List (Addr × Obj)) (s:Shared) (σ:St) (H:Hp) (D:pH),Inv X pins σ H s->t D σ H->wpAny (model X.prog X.w) X.A (execs st X.env) (SP X pins D) X.xe s
theorem thn{α:Type}{t:Sem α}{Q Q':α->Shared->Prop}{M:Model}{A:Around}{E:Value->Shared->Prop}{s:Shared}(h:wpAny M A t Q E s)(hQ:∀ a s,Q a s->Q' a s):wpAny M A t Q' E s:=MH h hQ λ _ _ x=>x
section
variable {X:Cx}
def GC(i:Nat):TE:=λ σ H Q=>∃ v,σ[i]? = some (some v)/\Q v H
def tC(v:V):TE:=λ _ H Q=>Q v H
theorem Ey{i:Nat}{x:Str}{pos:Pos}(hN:X.N[i]? = some x)(hv:Vis X.env.scope x)(hd:(x == ("__debug__":Str))=false:=by decide)(hcd:(x == ("__classdict__":Str))=false:=by decide):PE X (.Name x pos) (GC i):=by
 intro pins s σ H Q I h;obtain⟨v,e,h⟩:=h;obtain⟨m,hn,hl⟩:=I.loc;obtain⟨u,r,l⟩:=hl i x v hN e hv;have fin:EP X pins σ Q u s:=⟨v,H,I,r,h⟩
 rcases l with ⟨hk,hm⟩|⟨hk,c,hc,hcell⟩
 ·exact wpAny_Name (wpAny_loadName_local I.ok.kind hk hn hm fin) hd
 ·rcases hk with hk|hk
  ·exact wpAny_Name (wpAny_loadName_cell I.ok.kind hk hc hcell fin) hd
  ·exact wpAny_Name (wpAny_loadName_free I.ok.kind hk hc hcell fin hcd) hd
theorem ed{i j pos}:PE X (.Constant (.int i) j pos) (tC (.int i)):=λ _ _ _ H _ I h=>wpAny_Constant_int ⟨.int i,H,I.tok _,⟨_,rfl⟩,h⟩
theorem cH{b j pos}:PE X (.Constant (.bool b) j pos) (tC (.bl b)):=λ _ _ _ H _ I h=>Constant_bool ⟨.bl b,H,I,rfl,h⟩
theorem dN{j pos}:PE X (.Constant .none j pos) (tC .non):=λ _ _ _ H _ I h=>Constant_none ⟨.non,H,I,rfl,h⟩
theorem bG{x j pos}:PE X (.Constant (.str x) j pos) (tC (.str x)):=λ _ _ _ H _ I h=>Calls.Constant_str ⟨.str x,H,I.tok _,⟨_,rfl⟩,h⟩
def Gl(X:Cx)(x:Str):Prop:=X.env.kindOf x=some .globalImplicit
theorem oF{E:Value->Shared->Prop}{pins:List (Addr × Obj)}{s:Shared}{σ:St}{H:Hp}{x:Str}{u:Value}{pos:Pos}{Q:Value->Shared->Prop}(I:Inv X pins σ H s)(hg:Gl X x)(hm:X.mg x=some u)(h:Q u s)
  (hd:(x == ("__debug__":Str))=false:=by decide):wpAny (model X.prog X.w) X.A (eval (.Name x pos) X.env) Q E s:=
 Calls.Name_function_global I.ok.kind hg (Calls.loadGlobal_global (by rw [I.ok.glob];exact I.mod.glob.keeps I.bk) hm h) hd
theorem ic{E:Value->Shared->Prop}{pins:List (Addr × Obj)}{s:Shared}{σ:St}{H:Hp}{x:Str}{u:Value}{pos:Pos}{Q:Value->Shared->Prop}(I:Inv X pins σ H s)(hg:Gl X x)(hm:X.mg x=none)(hv:bootBuiltins x=some u)(h:Q u s)
  (hn:x ≠ "__name__":=by decide) (hd:(x == ("__debug__":Str))=false:=by decide):wpAny (model X.prog X.w) X.A (eval (.Name x pos) X.env) Q E s:=by
 obtain⟨mb,h1,h2⟩:=I.mod.blt;exact Calls.Name_function_global I.ok.kind hg (Calls.loadGlobal_builtin (by rw [I.ok.glob];exact I.mod.glob.keeps I.bk) hm (by rw [I.ok.blt];exact h1.keeps I.bk) ((h2 x hn).trans hv) h) hd
theorem ki{x:Str}{v:V}{u:Value}{pos:Pos}(hg:Gl X x)(hm:X.mg x=some u)(r:bo v u)(hd:(x == ("__debug__":Str))=false:=by decide):PE X (.Name x pos) (tC v):=
 λ _ _ _ H _ I h=>oF I hg hm ⟨v,H,I,r,h⟩ hd
theorem Bw{x:Str}{v:V}{u:Value}{pos:Pos}(hg:Gl X x)(hm:X.mg x=none)(hv:bootBuiltins x=some u)(r:bo v u)(hn:x ≠ "__name__":=by decide)(hd:(x == ("__debug__":Str))=false:=by decide):PE X (.Name x pos) (tC v):=
 λ _ _ _ H _ I h=>ic I hg hm hv ⟨v,H,I,r,h⟩ hn hd
variable {a b:Expr}{ta tb:TE}{pos:Pos}
def tB(t:TE):TT:=λ σ H Q=>t σ H λ x H1=>∃ c,x=.bl c/\Q c H1
theorem Eo{e:Expr}{t:TE}(h:PE X e t)(he:∀ whole,isTrue e X.env whole=(do let v ←whole;standAt e.pos;holding [v] (truthy v)):=by intro _;rfl):PT X e (tB t):=by
 intro pins s σ H Q I hw;refine isTrue_plain (thn (h pins s σ H _ I hw) λ v s1 ⟨x,H1,I1,r1,q1⟩=>?_) (he _);obtain⟨d,rfl,q⟩:=q1;cases r1;exact Li ⟨H1,I1,q⟩
variable {tA tB':TT}{rest:List Expr}
def Jb(t u:TT):TT:=λ σ H Q=>t σ H λ c H1=>if c=true then u σ H1 Q else Q false H1
def tOr(t u:TT):TT:=λ σ H Q=>t σ H λ c H1=>if c=true then Q true H1 else u σ H1 Q
def IX(t:TT):TT:=λ σ H Q=>t σ H λ c H1=>Q (!c) H1
theorem Bi(ha:PT X a tA):PW X (.BoolOp .And [a] pos) tA:=by
 intro wh pins s σ H Q I h;refine isTrue_and (thn (ha pins s σ H Q I h) λ c s1 e=>?_)
 cases c with
 | true=>exact isTrue_and_nil e
 | false=>exact e
theorem Em(ha:PT X a tA):PW X (.BoolOp .Or [a] pos) tA:=by
 intro wh pins s σ H Q I h;refine isTrue_or (thn (ha pins s σ H Q I h) λ c s1 e=>?_)
 cases c with
 | false=>exact isTrue_or_nil e
 | true=>exact e
theorem En(ha:PT X a tA)(hb:PW X (.BoolOp .And (b::rest) pos) tB'):PW X (.BoolOp .And (a::b::rest) pos) (Jb tA tB'):=by
 intro wh pins s σ H Q I h;refine isTrue_and (thn (ha pins s σ H _ I h) λ c s1 ⟨H1,I1,q1⟩=>?_)
 cases c with
 | true=>exact hb wh pins s1 σ H1 Q I1 q1
 | false=>exact⟨H1,I1,q1⟩
theorem HH(ha:PT X a tA)(hb:PW X (.BoolOp .Or (b::rest) pos) tB'):PW X (.BoolOp .Or (a::b::rest) pos) (tOr tA tB'):=by
 intro wh pins s σ H Q I h;refine isTrue_or (thn (ha pins s σ H _ I h) λ c s1 ⟨H1,I1,q1⟩=>?_)
 cases c with
 | true=>exact⟨H1,I1,q1⟩
 | false=>exact hb wh pins s1 σ H1 Q I1 q1
theorem Ep(ha:PT X a tA):PT X (.UnaryOp .Not a pos) (IX tA):=by
 intro pins s σ H Q I h;exact isTrue_not (ha pins s σ H (λ c H1=>Q (!c) H1) I h)
def DH(ta tb:TE):TE:=λ σ H Q=>ta σ H λ x H1=>∃ c,x=.bl c/\if c=true then tb σ H1 Q else Q (.bl false) H1
def IW(ta tb:TE):TE:=λ σ H Q=>ta σ H λ x H1=>∃ c,x=.bl c/\if c=true then Q (.bl true) H1 else tb σ H1 Q
def DC(ta:TE):TE:=λ σ H Q=>ta σ H λ x H1=>∃ c,x=.bl c/\Q (.bl (!c)) H1
theorem Ez{op}{t:TE}(h:PE X a t):PE X (.BoolOp op [a] pos) t:=λ pins s σ H Q I hw=>BoolOp_one (h pins s σ H Q I hw)
theorem EB(ha:PE X a ta)(hb:PE X (.BoolOp .And (b::rest) pos) tb):PE X (.BoolOp .And (a::b::rest) pos) (DH ta tb):=by
 intro pins s σ H Q I h;refine BoolOp_and (thn (ha pins s σ H _ I h) λ v s1 ⟨x,H1,I1,r1,q1⟩=>?_);obtain⟨c,rfl,q1⟩:=q1;cases r1;refine Li ?_
 cases c with
 | true=>exact hb pins s1 σ H1 Q I1 q1
 | false=>exact⟨.bl false,H1,I1,rfl,q1⟩
theorem HI(ha:PE X a ta)(hb:PE X (.BoolOp .Or (b::rest) pos) tb):PE X (.BoolOp .Or (a::b::rest) pos) (IW ta tb):=by
 intro pins s σ H Q I h;refine BoolOp_or (thn (ha pins s σ H _ I h) λ v s1 ⟨x,H1,I1,r1,q1⟩=>?_);obtain⟨c,rfl,q1⟩:=q1;cases r1;refine Li ?_
 cases c with
 | false=>exact hb pins s1 σ H1 Q I1 q1
 | true=>exact⟨.bl true,H1,I1,rfl,q1⟩
theorem EA(ha:PE X a ta):PE X (.UnaryOp .Not a pos) (DC ta):=by
 intro pins s σ H Q I h;refine UnaryOp_ (thn (ha pins s σ H _ I h) λ v s1 ⟨x,H1,I1,r1,q1⟩=>?_);obtain⟨c,rfl,q1⟩:=q1;cases r1;exact not_of (Li ⟨.bl (!c),H1,I1,rfl,q1⟩)
def tIf(t:TT)(ta tb:TE):TE:=λ σ H Q=>t σ H λ c H1=>if c=true then ta σ H1 Q else tb σ H1 Q
theorem kX{c:Expr}(hc:PT X c tA)(ha:PE X a ta)(hb:PE X b tb):PE X (.IfExp c a b pos) (tIf tA ta tb):=by
 intro pins s σ H Q I h;refine wpAny_IfExp (thn (hc pins s σ H _ I h) λ d s1 ⟨H1,I1,q1⟩=>?_)
 cases d with
 | true=>exact ha pins s1 σ H1 Q I1 q1
 | false=>exact hb pins s1 σ H1 Q I1 q1
end
def SqL(K:W.Frag)(H:Hp)(a:Addr)(xs:List V):Prop:=
 Rd H a (.lst xs) \/
  ∃ (o:Obj) (its:Array Value) (n:Nat),K.lookup a=some o/\o.cls=.type "list" /\ o.dict=none/\o.data=.seq its n/\its.size<=sizeLine/\aX xs its.toList
def SqT(K:W.Frag)(H:Hp)(a:Addr)(xs:List V):Prop:=
 Rd H a (.tup xs) \/
  ∃ (o:Obj) (its:Array Value) (n:Nat),K.lookup a=some o/\o.cls=.type "tuple" /\ o.data=.seq its n/\its.size<=sizeLine/\aX xs its.toList
def Kf:Value->Option V
 | .none=>some .non
 | .bool b=>some (.bl b)
 | .int i _=>some (.int i)
 | .str x _=>some (.str x)
 | .bytes b _=>some (.byt b)
 | .float b _=>some (.flt b)
 | .ref a=>some (.ref a)
 | .type n=>some (.ty n)
 | _=>none
theorem bo.abs{x:V}{u:Value}(r:bo x u):Kf u=some x:=by
 cases x with
 | non=>cases r;rfl
 | bl _=>cases r;rfl
 | int _=>obtain⟨t,rfl⟩:=r;rfl
 | str _=>obtain⟨t,rfl⟩:=r;rfl
 | byt _=>obtain⟨t,rfl⟩:=r;rfl
 | flt _=>obtain⟨t,rfl⟩:=r;rfl
 | ref _=>cases r;rfl
 | ty _=>cases r;rfl
theorem bo.inj{x y:V}{u:Value}(r:bo x u)(q:bo y u):x=y:=K2 (r.abs.symm.trans q.abs)
theorem aX.inj:∀ {xs ys:List V}{us:List Value},aX xs us->aX ys us->xs=ys
 | _,_,_,.nil,.nil=>rfl
 | _,_,_,.cons r t,.cons r' t'=>by rw [r.inj r',aX.inj t t']
section
variable {X:Cx}{pins:List (Addr × Obj)}{σ:St}{H:Hp}{s:Shared}{a:Addr}{xs ys:List V}
theorem SqL.of{K:W.Frag}(h:H a=some (.lst xs)):SqL K H a xs:=.inl (.inl h)
theorem SqT.of{K:W.Frag}(h:H a=some (.tup xs)):SqT K H a xs:=.inl (.inl h)
theorem Inv.list(I:Inv X pins σ H s)(h:SqL X.K H a xs):∃ its:List Value,aX xs its/\PlainL s.heap a its.toArray/\xs.length<=sizeLine:=by
 rcases h with h|⟨o,its,n,hk,hc,hd,hs,hz,r⟩
 ·obtain⟨z,its,n,r,e⟩:=h.ok I.hok;exact⟨its,r,⟨_,n,e,rfl,rfl,rfl⟩,z⟩
 ·refine⟨its.toList,r,⟨o,n,I.kIn a o hk,hc,hd,by simpa using hs⟩,?_⟩;have e:=r.length;simp only [LW] at e;omega
theorem Inv.tuple(I:Inv X pins σ H s)(h:SqT X.K H a xs):∃ its:List Value,aX xs its/\IsTup s.heap a its.toArray/\xs.length<=sizeLine:=by
 rcases h with h|⟨o,its,n,hk,hc,hs,hz,r⟩
 ·obtain⟨z,its,r,p⟩:=h.ok I.hok;exact⟨its,r,p,z⟩
 ·refine⟨its.toList,r,⟨o,I.kIn a o hk,hc,n,by simpa using hs⟩,?_⟩;have e:=r.length;simp only [LW] at e;omega
theorem Inv.list_inj(I:Inv X pins σ H s)(h:SqL X.K H a xs)(h':SqL X.K H a ys):xs=ys:=by
 obtain⟨its,r,⟨o,n,e,_,_,d⟩,_⟩:=I.list h;obtain⟨its',r',⟨o',n',e',_,_,d'⟩,_⟩:=I.list h';rw [e] at e';cases e';rw [d] at d'
 injection d' with d1 _
 have:its=its':=by simpa using Lv Array.toList d1
 subst this;exact r.inj r'
theorem Inv.tuple_inj(I:Inv X pins σ H s)(h:SqT X.K H a xs)(h':SqT X.K H a ys):xs=ys:=by
 obtain⟨its,r,⟨o,e,_,n,d⟩,_⟩:=I.tuple h;obtain⟨its',r',⟨o',e',_,n',d'⟩,_⟩:=I.tuple h';rw [e] at e';cases e';rw [d] at d'
 injection d' with d1 _
 have:its=its':=by simpa using Lv Array.toList d1
 subst this;exact r.inj r'
end
abbrev Cx.wish(X:Cx)(E:Value->Shared->Prop):Cx:={ X with xe:=E }
abbrev Cx.nox(X:Cx):Cx:=X.wish λ _ _=>False
theorem Cx.Ok.wish{X:Cx}(ok:X.Ok)(E:Value->Shared->Prop):(X.wish E).Ok:=
 ⟨ok.mod,ok.kind,ok.glob,ok.blt,ok.above,ok.inj,ok.has,ok.cab,ok.hd,ok.frames,ok.stk,ok.exf,ok.bs,ok.bsz,ok.noex,ok.exfs,ok.funs,ok.frf⟩
theorem Cx.Ok.unwish{X:Cx}{E:Value->Shared->Prop}(ok:(X.wish E).Ok):X.Ok:=
 ⟨ok.mod,ok.kind,ok.glob,ok.blt,ok.above,ok.inj,ok.has,ok.cab,ok.hd,ok.frames,ok.stk,ok.exf,ok.bs,ok.bsz,ok.noex,ok.exfs,ok.funs,ok.frf⟩
section
variable {X:Cx}{pins:List (Addr × Obj)}{σ:St}{H:Hp}{s:Shared}{E:Value->Shared->Prop}
theorem Inv.wish(I:Inv X pins σ H s)(E:Value->Shared->Prop):Inv (X.wish E) pins σ H s:=⟨I.ok.wish E,I.os,I.bare,I.base,I.loc,I.cell,I.free,I.freeC,I.pin,I.hok,I.len⟩
theorem Inv.unwish(I:Inv (X.wish E) pins σ H s):Inv X pins σ H s:=⟨I.ok.unwish,I.os,I.bare,I.base,I.loc,I.cell,I.free,I.freeC,I.pin,I.hok,I.len⟩
theorem SP.unwish{D:pH}{f:Flow}{s':Shared}(h:SP (X.wish E) pins D f s'):SP X pins D f s':=by
 cases f with
 | next=>obtain⟨σ',H',I,q⟩:=h;exact⟨σ',H',I.unwish,q⟩
 | brk=>obtain⟨σ',H',I,q⟩:=h;exact⟨σ',H',I.unwish,q⟩
 | cont=>obtain⟨σ',H',I,q⟩:=h;exact⟨σ',H',I.unwish,q⟩
 | ret u=>obtain⟨v,σ',H',I,r,q⟩:=h;exact⟨v,σ',H',I.unwish,r,q⟩
theorem PSs.nox{st:List Stmt}{t:TS}(h:PSs X.nox st t):PSs X st t:=λ pins s σ H D I hw=>
 MH (h pins s σ H D (I.wish _) hw) (λ _ _ q=>q.unwish) λ _ _ z=>False.elim z
end
section
variable {X:Cx}{st:Stmt}{rest:List Stmt}{t u:TS}{e:Expr}{te:TE}{pos:Pos}
def DD:TS:=λ D σ H=>D.nx σ H
def IT(t u:TS):TS:=λ D σ H=>t { D with nx:=u D } σ H
theorem ao:PSs X [] DD:=λ _ _ σ H _ I h=>MY ⟨σ,H,I,h⟩
theorem fC(h1:PS X st t)(h2:PSs X rest u):PSs X (st::rest) (IT t u):=by
 intro pins s σ H D I h;refine wpAny_execs_cons (thn (h1 pins s σ H { D with nx:=u D } I h) λ f s1 q=>?_)
 cases f with
 | next=>
  obtain⟨σ',H',I',q⟩:=q;exact h2 pins s1 σ' H' D I' q
 | ret v=>exact q
 | brk=>exact q
 | cont=>exact q
theorem kg(h1:PS X st t):PSs X [st] t:=by
 intro pins s σ H D I h;refine wpAny_execs_cons (thn (h1 pins s σ H D I h) λ f s1 q=>?_)
 cases f with
 | next=>exact MY q
 | ret v=>exact q
 | brk=>exact q
 | cont=>exact q
theorem Inv.quiet{pins:List (Addr × Obj)}{σ:St}{H:Hp}{s:Shared}(I:Inv X pins σ H s):interactive X.env=false:=by simp [interactive,I.ok.kind]
def DE(te:TE):TS:=λ D σ H=>te σ H λ _ H1=>D.nx σ H1
theorem eY(he:PE X e te)(hs:swapsWith e none pos.line X.env=pure false:=by rfl):PS X (.Expr e pos) (DE te):=by
 intro pins s σ H D I h;exact wpAny_Expr_any (thn (he pins s σ H _ I h) λ v s1 ⟨x,H1,I1,r1,q1⟩=>⟨σ,H1,I1,q1⟩) I.quiet hs
def IU(te:TE):TS:=λ D σ H=>te σ H D.rt
theorem uh(he:PE X e te):PS X (.Return (some e) pos) (IU te):=by
 intro pins s σ H D I h;exact wpAny_Return_some (thn (he pins s σ H _ I h) λ v s1 ⟨x,H1,I1,r1,q1⟩=>⟨x,σ,H1,I1,r1,q1⟩)
def GD(c:TT)(t u:TS):TS:=λ D σ H=>c σ H λ b H1=>if b=true then t D σ H1 else u D σ H1
theorem AB{c:Expr}{a b:List Stmt}{tc:TT}(hc:PT X c tc)(ha:PSs X a t)(hb:PSs X b u):PS X (.If c a b pos) (GD tc t u):=by
 intro pins s σ H D I h;refine wpAny_If (thn (hc pins s σ H _ I h) λ d s1 ⟨H1,I1,q1⟩=>?_)
 cases d with
 | true=>exact ha pins s1 σ H1 D I1 q1
 | false=>exact hb pins s1 σ H1 D I1 q1
def Eg:TS:=λ _ _ _=>False
theorem gP:PS X st Eg:=λ _ _ _ _ _ _ h=>h.elim
end
abbrev TG:=V->St->Hp->(St->Hp->Prop)->Prop
abbrev TGs:=List V->St->Hp->(St->Hp->Prop)->Prop
def PG(X:Cx)(target:Expr)(t:TG):Prop:=
 ∀ (pins:List (Addr × Obj)) (s:Shared) (σ:St) (H:Hp) (v:V) (u:Value) (Q:St->Hp->Prop),Inv X pins σ H s->bo v u->t v σ H Q →
  wpAny (model X.prog X.w) X.A (assign target X.env u) (λ _ s'=>∃ σ' H',Inv X pins σ' H' s'/\Q σ' H') X.xe s
def PGs(X:Cx)(ts:List Expr)(t:TGs):Prop:=
 ∀ (pins:List (Addr × Obj)) (s:Shared) (σ:St) (H:Hp) (vs:List V) (us:List Value) (Q:St->Hp->Prop),Inv X pins σ H s->aX vs us->t vs σ H Q →
  wpAny (model X.prog X.w) X.A (assignInOrder ((assignEach ts X.env).map (·.2)) us) (λ _ s'=>∃ σ' H',Inv X pins σ' H' s'/\Q σ' H') X.xe s
abbrev zT:=V->V->V->Hp->(Hp->Prop)->Prop
def JL(X:Cx)(t:zT):Prop:=
 ∀ (pins:List (Addr × Obj)) (s:Shared) (σ:St) (H:Hp) (o i v:V) (ov iv u:Value) (Q:Hp->Prop),Inv X pins σ H s->bo o ov->bo i iv->bo v u->t o i v H Q →
  wpAny (model X.prog X.w) X.A (setItem ov iv u) (λ _ s'=>∃ H',Inv X pins σ H' s'/\Q H') X.xe s
section
variable {X:Cx}{pos:Pos}
def dh(i:Nat):TG:=λ v σ H Q=>Q (σ.set i (some v)) H
theorem uM{i:Nat}{x:Str}(hN:X.N.Nodup)(hi:X.N[i]? = some x)(hx:Loc X.env.scope x)(hf:X.fn x=true\/X.env.scope.names.lookup x=some .local:=by first|exact .inl rfl|exact .inr rfl|assumption):PG X (.Name x pos) (dh i):=by
 intro pins s σ H v u Q I r h;exact wpAny_assign_Name (gO I hN hi hx r (λ s' I'=>⟨_,H,I',h⟩) hf)
def JI:TGs:=λ vs σ H Q=>vs=[]/\Q σ H
def D7(t:TG)(u:TGs):TGs:=λ vs σ H Q=>∃ v r,vs=v::r/\t v σ H λ σ' H'=>u r σ' H' Q
theorem Bp:PGs X [] JI:=by
 intro pins s σ H vs us Q I r h;obtain⟨e,h⟩:=h;subst e;cases r;exact assignInOrder_nil ⟨σ,H,I,h⟩
theorem yb{e:Expr}{es:List Expr}{t:TG}{u:TGs}(h1:PG X e t)(h2:PGs X es u)
  (hs:(assignEach (e::es) X.env).map (·.2)=assign e X.env::(assignEach es X.env).map (·.2):=by rfl):PGs X (e::es) (D7 t u):=by
 intro pins s σ H vs us Q I r h;obtain⟨v,vr,e1,h⟩:=h;subst e1
 cases r with
 | cons r rr=>
  rw [hs];refine assignInOrder_cons (thn (h1 pins s σ H _ _ _ I r h) λ _ s1 ⟨σ1,H1,I1,q1⟩=>?_);exact h2 pins s1 σ1 H1 _ _ Q I1 rr q1
def JG(K:W.Frag)(n:Nat)(t:TGs):TG:=λ v σ H Q=>∃ a xs,v=.ref a/\SqT K H a xs/\xs.length=n/\t xs σ H Q
theorem Ex{es:List Expr}{k:Nat}{t:TGs}{n:Nat}(hc:X.calm=true)(h:PGs X es t)
  (hn:(assignEach es X.env).length=n:=by rfl) (hst:(assignEach es X.env).findIdx? (·.1)=none:=by rfl):PG X (.Tuple es k pos) (JG X.K n t):=by
 intro pins s σ H v u Q I r hw;obtain⟨a,xs,e1,hq,hl,hw⟩:=hw;subst e1;cases r;obtain⟨its,rv,ht,hz⟩:=I.tuple hq;refine assign_Tuple_tuple (I.ok.hd hc) ht (by simp [hn,←hl,rv.length]) hst λ h' hx=>?_;have I1:Inv X pins σ H { s with heap:=h' }:=I.kept (t':=s.toks) λ b o e=>hx b o (KL (Kt e)) e;exact h pins _ σ H xs _ Q I1 (by simpa using rv) hw
def JH(to ti:TE)(t:zT):TG:=λ v σ H Q=>to σ H λ o H1=>ti σ H1 λ i H2=>t o i v H2 λ H3=>Q σ H3
theorem Ad{o i:Expr}{to ti:TE}{t:zT}(ho:PE X o to)(hi:PE X i ti)(hs:JL X t)
  (ha:∀ v,assign (.Subscript o i pos) X.env v=(do
   let ov ←holding [v] (eval o X.env)
   let iv ←holding [v,ov] (eval i X.env)
   standAt pos
   holding [v,ov,iv] (setItem ov iv v)
   release [v,ov,iv] []):=by intro _;rfl):PG X (.Subscript o i pos) (JH to ti t):=by
 intro pins s σ H v u Q I r h;rw [ha];refine Kl (Mm (thn (ho pins s σ H _ I h) λ ov s1 ⟨x,H1,I1,r1,q1⟩=>?_));refine Kl (Mm (thn (hi pins s1 σ H1 _ I1 q1) λ iv s2 ⟨y,H2,I2,r2,q2⟩=>?_));refine Kl (MN (Kl (Mm (thn (hs pins s2 σ H2 x y v ov iv u _ I2 r1 r2 r q2) λ _ s3 ⟨H3,I3,q3⟩=>?_))));exact wpAny_release ⟨σ,H3,I3,q3⟩
def GV(te:TE)(g:TG):TS:=λ D σ H=>te σ H λ x H1=>g x σ H1 D.nx
theorem Et{tg e:Expr}{te:TE}{g:TG}(he:PE X e te)(hg:PG X tg g)(hs:swapsWithSole [tg] e pos.line X.env=pure false:=by rfl)(hw:swappedStores [tg] e X.env=pure none:=by rfl)
  (h1:(assignEach [tg] X.env).map (·.2)=[assign tg X.env]:=by rfl):PS X (.Assign [tg] e pos) (GV te g):=by
 intro pins s σ H D I h;refine wpAny_Assign_stores (thn (he pins s σ H _ I h) λ v s1 ⟨x,H1,I1,r1,q1⟩=>?_) hs hw;rw [h1];exact thn (hg pins s1 σ H1 x v _ I1 r1 q1) λ _ s2 q=>q
theorem dM{i:Nat}{x:Str}{e:Expr}{te:TE}{pos':Pos}(hN:X.N.Nodup)(hi:X.N[i]? = some x)(hx:Loc X.env.scope x)(he:PE X e te)(hs:swapsWith e (some (.Name x pos')) pos.line X.env=pure false:=by rfl)(hf:X.fn x=true\/X.env.scope.names.lookup x=some .local:=by first|exact .inl rfl|exact .inr rfl|assumption) :
  PS X (.Assign [.Name x pos'] e pos) (GV te (dh i)):=by
 intro pins s σ H D I h;refine wpAny_Assign_Name (thn (he pins s σ H _ I h) λ v s1 ⟨y,H1,I1,r1,q1⟩=>?_) hs;exact gO I1 hN hi hx r1 (λ s2 I2=>⟨_,H1,I2,q1⟩) hf
def IV(i j:Nat)(ta:TA):TS:=λ D σ H=>ta σ H λ vs H1=>∃ v w,vs=[v,w]/\D.nx ((σ.set i (some v)).set j (some w)) H1
theorem Er{i j:Nat}{x y:Str}{a b:Expr}{ta:TA}{px py pt:Pos}{kt k2 pt2}(hc:X.calm=true)(hN:X.N.Nodup)(hi:X.N[i]? = some x)(hj:X.N[j]? = some y)(hij:i ≠ j)
  (hx:X.env.scope.names.lookup x=some .local) (hy:X.env.scope.names.lookup y=some .local) (ha:PA X [a,b] ta)
  (hw:swappedStores [.Tuple [.Name x px,.Name y py] kt pt] (.Tuple [a,b] k2 pt2) X.env=pure (some [x,y]))
  (hs:swapsWithSole [.Tuple [.Name x px,.Name y py] kt pt] (.Tuple [a,b] k2 pt2) pos.line X.env=pure false:=by rfl) :
  PS X (.Assign [.Tuple [.Name x px,.Name y py] kt pt] (.Tuple [a,b] k2 pt2) pos) (IV i j ta):=by
 intro pins s σ H D I h;rw [exec_Assign_arm];refine Kl (MN ?_);rw [hs];refine Kl (Kv ?_);rw [Ks (by decide)];refine Kl (Tuple_ (thn (ha _ pins s σ H _ I h) λ us s1 ⟨vs,H1,I1,r1,q1⟩=>?_));obtain⟨v,w,e1,q1⟩:=q1;subst e1
 obtain⟨u1,u2,rfl,rv,rw'⟩:∃ u1 u2,us=[u1,u2]/\bo v u1/\bo w u2:=by
  cases r1 with
  | cons p q=>
   cases q with
   | cons p' q'=>
    cases q';exact⟨_,_,rfl,p,p'⟩
 refine Ls ?_ (by show 2<=sizeLine;decide);have I2:Inv X pins σ H1 { s1 with heap:=s1.heap.push { cls:=.type "tuple",data:=.seq [u1,u2].toArray } }:=I1.kept (t':=s1.toks) λ b o e=>Kn _ e;rw [hw];refine Kl (Kv ?_)
 show wpAny (model X.prog X.w) X.A (do rule "assign.swapped-stores";let items ←unpackItems (.ref s1.heap.objs.size) 2 none;assignInOrder [λ v=>bindName X.env y v,λ v=>bindName X.env x v] items.reverse;pure Flow.next) _ _ _
 refine Kl (wpAny_rule (Kl (unpackItems_tuple (items:=#[u1,u2]) (I.ok.hd hc) (IsTup.new s1.heap _) λ h' hx'=>?_)));have I3:=I2.kept (h':=h') (t':=s1.toks) λ b o e=>hx' b o (KL (Kt e)) e
 show wpAny _ _ (assignInOrder [λ v=>bindName X.env y v,λ v=>bindName X.env x v] [u2,u1] >>= λ _=>pure Flow.next) _ _ _
 refine Kl (assignInOrder_cons (wpAny_bindName (gO I3 hN hj (.inl hy) rw' (λ s2 I4=>?_) (.inr hy))));refine assignInOrder_cons (wpAny_bindName (gO I4 hN hi (.inl hx) rv (λ s3 I5=>assignInOrder_nil (Kv ?_)) (.inr hx)));rw [List.set_comm _ _ (K6 hij)] at I5;exact⟨_,H1,I5,q1⟩
end
section
variable {X:Cx}{pos:Pos}
def tP(c:TT)(tb:TS):TS:=λ D σ H=>∃ W:Nat->St->Hp->Prop,(∃ m,W m σ H)/\∀ m σ H,W m σ H →
 c σ H λ b H1=>if b=true then ∃ N:St->Hp->Prop,(∀ σ' H',N σ' H'->∃ m',m' < m/\W m' σ' H')/\tb { D with nx:=N,ct:=N,bk:=D.nx } σ H1 else D.nx σ H1
theorem kU{c:Expr}{body:List Stmt}{tc:TT}{tb:TS}(hp:PassesOwn (model X.prog X.w) X.A X.env X.xe)(hc:PT X c tc)(hb:PSs X body tb):PS X (.While c body [] pos) (tP tc tb):=by
 intro pins s σ H D I h;obtain⟨W,⟨m0,w0⟩,turn⟩:=h;refine wpAny_While (codeAny_whileLoop (λ n s'=>∃ σ' H',Inv X pins σ' H' s'/\W n σ' H') ?_ m0 ⟨σ,H,I,w0⟩);rintro n s1 ⟨σ1,H1,I1,w1⟩;refine LO hp (thn (hc pins s1 σ1 H1 _ I1 (turn n σ1 H1 w1)) λ b s2 ⟨H2,I2,q2⟩=>?_)
 cases b with
 | true=>
  obtain⟨N,hN,q2⟩:=q2;rw [Kx rfl];refine LO hp (thn (hb pins s2 σ1 H2 _ I2 q2) λ f s3 q3=>?_)
  cases f with
  | next=>
   obtain⟨σ3,H3,I3,n3⟩:=q3;obtain⟨m',hm,w3⟩:=hN σ3 H3 n3;exact⟨m',hm,σ3,H3,I3,w3⟩
  | cont=>
   obtain⟨σ3,H3,I3,n3⟩:=q3;obtain⟨m',hm,w3⟩:=hN σ3 H3 n3;exact⟨m',hm,σ3,H3,I3,w3⟩
  | brk=>exact q3
  | ret v=>exact q3
 | false=>
  rw [Ks Kw];exact MY ⟨σ1,H2,I2,q2⟩
end
structure It where
 go:Nat->Hp->Prop
 yld:Nat->Hp->V->Hp->Prop
 stop:Nat->Hp->Prop
def nO(X:Cx)(pins:List (Addr × Obj))(H:Hp)(b:Addr):Prop:=
 H b=none/\b ≠ X.env.locals/\b ∉ X.fs/\(b∈X.ex\/X.s₀.heap.objs.size<=b)/\(∀ x c,X.env.cells.lookup x=some c->c ≠ b)/\∀ p∈X.pn++pins,p.1 ≠ b
theorem Inv.fpOk{X:Cx}{pins:List (Addr × Obj)}{σ:St}{H H':Hp}{s:Shared}{b:Addr}(I:Inv X pins σ H s)(hb:s.heap.objs.size<=b)(hn:H' b=none):nO X pins H' b:=by
 refine⟨hn,ML (KC I.lt hb),I.nofs hb,.inr (Le I.sz hb),λ x c e z=>?_,λ p hp z=>?_⟩
 ·obtain⟨v,q⟩:=I.cell x c e;exact absurd (KC q.lt (by rw [z];exact hb)) (LI _)
 ·exact absurd (KC (Kt (I.pin p hp).1) (by rw [z];exact hb)) (LI _)
structure zS(P:Program)(w:World)(K:W.Frag)(tg:Expr)(J:It)(fp:List Addr)(it:Addr)(tn:Nat->Heap->Prop):Prop where
 mem:it∈fp
 obj:∀ i h,tn i h->∀ b∈fp,∃ o,h.get? b=some o/\∀ v,o.data ≠ .cell v
 keep:∀ i h h',tn i h->(∀ b∈fp,∀ o,h.get? b=some o->h'.get? b=some o)->tn i h'
 item:∀ (X:Cx),X.prog=P->X.w=w->X.K=K->X.calm=true->∀ (i:Nat) (pins:List (Addr × Obj)) (s:Shared) (σ:St) (H:Hp) (E:Value->Shared->Prop),Inv X pins σ H s->(∀ b∈fp,nO X pins H b)->tn i s.heap->J.go i H →
  wpAny (model P w) X.A (pyNext (.ref it)) (λ r s1=>∃ u,r=some u /\
   wpAny (model P w) X.A (letOwnedTupleGo tg (.ref it) u) (λ _ s2=>∃ x H',Inv X pins σ H' s2/\bo x u/\J.yld i H x H'/\tn (i+1) s2.heap/\∀ b∈fp,H' b=none) E s1) E s
 done:∀ (X:Cx),X.prog=P->X.w=w->X.K=K->X.calm=true->∀ (i:Nat) (pins:List (Addr × Obj)) (s:Shared) (σ:St) (H:Hp) (E:Value->Shared->Prop),Inv X pins σ H s->(∀ b∈fp,nO X pins H b)->tn i s.heap->J.stop i H →
  wpAny (model P w) X.A (pyNext (.ref it)) (λ r s1=>r=none/\Inv X pins σ H s1) E s
 self:∀ (A:Around) (i:Nat) (s:Shared) (Q:Value->Shared->Prop) (E:Value->Shared->Prop),tn i s.heap->Q (.ref it) s->wpAny (model P w) A (pyIter (.ref it)) Q E s
abbrev TI:=St->Hp->(It->Hp->Prop)->Prop
def PIE(X:Cx)(pins:List (Addr × Obj))(σ:St)(tg:Expr)(R:It->Hp->Prop)(itv:Value)(s2:Shared):Prop:=
 ∃ (it:Addr) (fp:List Addr) (tn:Nat->Heap->Prop) (J:It) (H':Hp),itv=.ref it/\Inv X pins σ H' s2/\zS X.prog X.w X.K tg J fp it tn/\tn 0 s2.heap/\(∀ b∈fp,nO X pins H' b)/\R J H'
def PI(X:Cx)(tg iter:Expr)(wi:TI):Prop:=
 ∀ (pins:List (Addr × Obj)) (s:Shared) (σ:St) (H:Hp) (R:It->Hp->Prop),Inv X pins σ H s->wi σ H R →
  wpAny (model X.prog X.w) X.A (eval iter X.env) (λ v s1=>wpAny (model X.prog X.w) X.A (pyIter v) (PIE X pins σ tg R) X.xe s1) X.xe s
theorem A0{M:Model}{A:Around}{E:Value->Shared->Prop}{s:Shared}{tg:Expr}{it:Addr}{u:Value}{o:Obj}{n:String}{vs:Array Value}{Q:Unit->Shared->Prop}(ho:s.heap.get? it=some o)(hc:o.cls=.type n)(hd:o.data=.fields vs)
    (hn:["enumerate", "zip", "dict_itemiterator", "dict_reverseitemiterator", "odict_iterator", "itertools.zip_longest", "itertools.pairwise"].contains n=false) (hQ:Q () s):wpAny M A (letOwnedTupleGo tg (.ref it) u) Q E s:=by
  unfold letOwnedTupleGo
  cases tg<;>first
    | exact Kv hQ
    | (cases u<;>first
        | exact Kv hQ
        | (refine Kl (wpAny_load ho ?_)
           rw [hc,hd]
           show wpAny M A (if (["enumerate", "zip", "dict_itemiterator", "dict_reverseitemiterator", "odict_iterator", "itertools.zip_longest", "itertools.pairwise"].contains n && vs[0]? == some (rawInt _))=true then _ else _) Q E s
           rw [Ks (by intro h;rw [hn,Bool.false_and] at h;cases h)];exact Kv hQ))
def Itl(K:W.Frag)(a:Addr):It:=
 ⟨λ i H=>∃ xs x,SqL K H a xs/\xs[i]? = some x,λ i H x H'=>H'=H/\∀ xs,SqL K H a xs->xs[i]? = some x,λ i H=>∃ xs,SqL K H a xs/\xs.length<=i⟩
def Itt(K:W.Frag)(a:Addr):It:=
 ⟨λ i H=>∃ xs x,SqT K H a xs/\xs[i]? = some x,λ i H x H'=>H'=H/\∀ xs,SqT K H a xs->xs[i]? = some x,λ i H=>∃ xs,SqT K H a xs/\xs.length<=i⟩
def Itr(lo:Int)(n:Nat):It:=⟨λ i _=>i < n,λ i H x H'=>H'=H/\x=.int (lo+i),λ i _=>n<=i⟩
theorem vg{P:Program}{w:World}{K:W.Frag}{tg:Expr}(a it:Addr):zS P w K tg (Itl K a) [it] it (λ i h=>h.IsListIter it a i) where
 mem:=by simp
 obj:=λ i h st b hb=>by
  have e:b=it:=by simpa using hb
  subst e;obtain⟨o,e,c,d⟩:=st;exact⟨o,e,λ v z=>by rw [d] at z;cases z⟩
 keep:=λ i h h' st k=>st.at λ o e=>k it (by simp) o e
 item:=by
  intro X hP hw hK hc i pins s σ H E I hf st hg;subst hP hw hK;obtain⟨xs,x,hq,hx⟩:=hg;obtain⟨its,rv,p,hz⟩:=I.list hq;obtain⟨u,hu,ru⟩:=rv.get hx;obtain⟨f0,f1,f2,f3,f4,f5⟩:=hf it (by simp);refine wpAny_pyNext_list_item st p.isList (x:=u) (by simpa using hu) λ h' st' sb=>?_;have I1:Inv X pins σ H { s with heap:=h' }:=I.turned (t':=s.toks) (λ b o hb e=>(sb.2 b hb).trans e) f0 f1 f3 f4 f5;obtain⟨o,e,c,d⟩:=id st';exact⟨u,rfl,A0 (s:={ s with heap:=h' }) e c d (by decide) ⟨x,H,I1,ru,⟨rfl,λ ys hy=>by rw [I.list_inj hy hq];exact hx⟩,st',λ b hb=>(hf b hb).1⟩⟩
 done:=by
  intro X hP hw hK hc i pins s σ H E I hf st hg;subst hP hw hK;obtain⟨xs,hq,hx⟩:=hg;obtain⟨its,rv,p,hz⟩:=I.list hq;obtain⟨f0,f1,f2,f3,f4,f5⟩:=hf it (by simp);have hl:=rv.length;exact wpAny_pyNext_list_end (I.ok.hd hc) st p.isList (by simp;omega) λ h' eb=>⟨rfl,I.turned (t':=s.toks) (λ b o hb e=>eb b o hb e) f0 f1 f3 f4 f5⟩
 self:=λ _ _ _ _ _ st h=>wpAny_pyIter_listiter st h
theorem qU{P:Program}{w:World}{K:W.Frag}{tg:Expr}(a it:Addr):zS P w K tg (Itt K a) [it] it (λ i h=>h.IsTupleIter it a i) where
 mem:=by simp
 obj:=λ i h st b hb=>by
  have e:b=it:=by simpa using hb
  subst e;obtain⟨o,e,c,d⟩:=st;exact⟨o,e,λ v z=>by rw [d] at z;cases z⟩
 keep:=λ i h h' st k=>st.at λ o e=>k it (by simp) o e
 item:=by
  intro X hP hw hK hc i pins s σ H E I hf st hg;subst hP hw hK;obtain⟨xs,x,hq,hx⟩:=hg;obtain⟨its,rv,p,hz⟩:=I.tuple hq;obtain⟨u,hu,ru⟩:=rv.get hx;obtain⟨f0,f1,f2,f3,f4,f5⟩:=hf it (by simp);refine wpAny_pyNext_tuple_item st (show s.heap.IsTuple a its.toArray from p) (x:=u) (by simpa using hu) λ h' st' sb=>?_;have I1:Inv X pins σ H { s with heap:=h' }:=I.turned (t':=s.toks) (λ b o hb e=>(sb.2 b hb).trans e) f0 f1 f3 f4 f5;obtain⟨o,e,c,d⟩:=id st';exact⟨u,rfl,A0 (s:={ s with heap:=h' }) e c d (by decide) ⟨x,H,I1,ru,⟨rfl,λ ys hy=>by rw [I.tuple_inj hy hq];exact hx⟩,st',λ b hb=>(hf b hb).1⟩⟩
 done:=by
  intro X hP hw hK hc i pins s σ H E I hf st hg;subst hP hw hK;obtain⟨xs,hq,hx⟩:=hg;obtain⟨its,rv,p,hz⟩:=I.tuple hq;obtain⟨f0,f1,f2,f3,f4,f5⟩:=hf it (by simp);have hl:=rv.length;exact wpAny_pyNext_tuple_end (I.ok.hd hc) st (show s.heap.IsTuple a its.toArray from p) (by simp;omega) λ h' eb=>⟨rfl,I.turned (t':=s.toks) (λ b o hb e=>eb b o hb e) f0 f1 f3 f4 f5⟩
 self:=λ _ _ _ _ _ st h=>wpAny_pyIter_tupleiter st h
theorem qV{P:Program}{w:World}{K:PySem.W.Frag}{tg:Expr}(it:Addr)(lo:Int)(n:Nat):zS P w K tg (Itr lo n) [it] it (λ i h=>IsRangeIter h it (lo+(i:Nat) * 1) ((n:Int) - (i:Nat)) 1) where
 mem:=by simp
 obj:=λ i h st b hb=>by
  have e:b=it:=by simpa using hb
  subst e
  exact⟨_,st,λ v z=>by
   have z':Data.fields _=Data.cell v:=z;cases z'⟩
 keep:=λ i h h' st k=>k it (by simp) _ st
 item:=by
  intro X hP hw hK hc i pins s σ H E I hf st hg;subst hP hw hK;obtain⟨f0,f1,f2,f3,f4,f5⟩:=hf it (by simp);have W:=Walks.range (prog:=X.prog) (w:=X.w) (I.ok.hd hc) it lo 1 n;refine W.item i s _ _ hg st λ v h' tk hv st' kk=>?_;obtain⟨t,rfl⟩:=hv;have I1:Inv X pins σ H { s with heap:=h',toks:=tk }:=I.turned (λ b o hb e=>kk b o (by simpa using hb) e) f0 f1 f3 f4 f5;refine⟨_,rfl,A0 (s:={ s with heap:=h',toks:=tk }) (n := "range_iterator") st' rfl rfl (by decide) ⟨.int (lo+i),H,I1,⟨t,?_⟩,⟨rfl,rfl⟩,st',λ b hb=>(hf b hb).1⟩⟩;rw [Mx]
 done:=by
  intro X hP hw hK hc i pins s σ H E I hf st hg;subst hP hw hK;obtain⟨f0,f1,f2,f3,f4,f5⟩:=hf it (by simp);exact wpAny_pyNext_range_end (I.ok.hd hc) st (by have:n<=i:=hg;omega) λ h' eb=>⟨rfl,I.turned (t':=s.toks) (λ b o hb e=>eb b o hb e) f0 f1 f3 f4 f5⟩
 self:=λ _ _ _ _ _ st h=>wpAny_pyIter_rangeiter st h
section
variable {X:Cx}{tg:Expr}
theorem x6{pins:List (Addr × Obj)}{σ:St}{H:Hp}{s:Shared}{R:It->Hp->Prop}{E:Value->Shared->Prop}{lo hi:Int}{t u v:Tok}{tk:Nat}(I:Inv X pins σ H s)(h1:-(2 ^ 62)<=lo)(h2:lo < 2 ^ 62)(h3:-(2 ^ 62)<=hi)(h4:hi < 2 ^ 62)
  (q:R (Itr lo (hi - lo).toNat) H):wpAny (model X.prog X.w) X.A (pyIter (.ref s.heap.objs.size)) (PIE X pins σ tg R) E { s with heap:=s.heap.push { cls:=.type "range",data:=.fields #[.int lo t,.int hi u,.int 1 v] },toks:=tk }:=by
 refine wpAny_pyIter_range (IsRange.new ..) (small_one h1 h2 h3 h4) ?_;have I1:Inv X pins σ H { s with heap:=s.heap.push { cls:=.type "range",data:=.fields #[.int lo t,.int hi u,.int 1 v] },toks:=tk }:=I.kept λ b o e=>Kn _ e
 refine⟨(s.heap.push { cls:=.type "range",data:=.fields #[.int lo t,.int hi u,.int 1 v] }).objs.size,[(s.heap.push { cls:=.type "range",data:=.fields #[.int lo t,.int hi u,.int 1 v] }).objs.size],_,_,H,rfl,
  I1.kept (t':=tk) λ b o e=>Kn _ e,qV _ lo (hi - lo).toNat,?_,λ b hb=>?_,q⟩
 ·have e1:lo+((0:Nat):Int) * 1=lo:=by simp
  have e2:(((hi - lo).toNat:Nat):Int) - ((0:Nat):Int)=Builtin.Range.rangeSize lo hi 1:=by rw [rangeSize_one];split<;>omega
  show IsRangeIter _ _ (lo+((0:Nat):Int) * 1) ((((hi - lo).toNat:Nat):Int) - ((0:Nat):Int)) 1
  rw [e1,e2];exact Kz _ rfl
 ·have e:b=(s.heap.push { cls:=.type "range",data:=.fields #[.int lo t,.int hi u,.int 1 v] }).objs.size:=by simpa using hb
  subst e;exact I1.fpOk (Kq _) (I1.hok.fresh (Kq _))
def D4(ta:TA):TI:=λ σ H R=>ta σ H λ vs H1=>∃ j:Int,vs=[.int j]/\-(2 ^ 62)<=j/\j < 2 ^ 62/\R (Itr 0 j.toNat) H1
theorem vw{a:Expr}{ta:TA}{p pos:Pos}(hg:Gl X "range")(hm:X.mg "range"=none)(ha:PA X [a] ta)(hs:starEach [a] X.env=[(false,eval a X.env)]:=by rfl):PI X tg (.Call (.Name "range" p) [a] [] pos) (D4 ta):=by
 intro pins s σ H R I h;refine Call_ (ic I hg hm boot_range (LF (thn (ha pos pins s σ H _ I h) λ us s1 ⟨vs,H1,I1,r1,q1⟩=>?_) hs rfl));obtain⟨j,e,q1,q2,q⟩:=q1;subst e
 cases r1 with
 | cons r rr=>
  cases rr;obtain⟨t,rfl⟩:=r;exact call_range_1 (x6 I1 (by omega) (by omega) q1 q2 (by simpa using q))
def IZ(wi:TI)(g:TG)(tb:TS):TS:=λ D σ H=>wi σ H λ J H1=>∃ W:Nat->Nat->St->Hp->Prop,(∃ m,W 0 m σ H1)/\∀ i m σ H,W i m σ H →
 (J.stop i H/\D.nx σ H)\/(J.go i H/\∃ N:St->Hp->Prop,(∀ σ' H',N σ' H'->∃ m',m' < m/\W (i+1) m' σ' H')/\∀ x H',J.yld i H x H'->g x σ H' λ σ2 H2=>tb { D with nx:=N,ct:=N,bk:=D.nx } σ2 H2)
def l0(fp:List Addr)(h:Heap):List (Addr × Obj):=fp.filterMap λ b=>(h.get? b).map λ o=>(b,o)
theorem eL{fp:List Addr}{h:Heap}{b:Addr}{o:Obj}(hb:b∈fp)(e:h.get? b=some o):(b,o)∈l0 fp h:=List.mem_filterMap.mpr ⟨b,hb,by rw [e];rfl⟩
theorem vH{fp:List Addr}{h:Heap}{p:Addr × Obj}(hp:p∈l0 fp h):p.1∈fp/\h.get? p.1=some p.2:=by
 obtain⟨b,hb,e⟩:=List.mem_filterMap.mp hp
 cases q:h.get? b with
 | none=>rw [q] at e;cases e
 | some o=>
  rw [q] at e;have e':(b,o)=p:=K2 e;subst e';exact⟨hb,q⟩
theorem Inv.pinned{pins:List (Addr × Obj)}{σ:St}{H:Hp}{s:Shared}{fp:List Addr}(I:Inv X pins σ H s)(hf:∀ b∈fp,nO X pins H b)(ho:∀ b∈fp,∃ o,s.heap.get? b=some o/\∀ v,o.data ≠ .cell v):Inv X (pins++l0 fp s.heap) σ H s:=
 I.pins_of λ p hp=>(K4.mp hp).elim (λ z=>I.pin p (KU _ z)) λ z=>by
  obtain⟨hb,e⟩:=vH z;obtain⟨f0,f1,f2,_⟩:=hf p.1 hb;obtain⟨o,e',d⟩:=ho p.1 hb;rw [e] at e';cases e';exact⟨e,f0,f1,f2,d⟩
theorem Inv.unpinned{pins pl:List (Addr × Obj)}{σ:St}{H:Hp}{s:Shared}(I:Inv X (pins++pl) σ H s):Inv X pins σ H s:=I.pins_of λ p hp=>I.pin p (KU _ (Ll _ hp))
theorem Es{iter:Expr}{body:List Stmt}{wi:TI}{g:TG}{tb:TS}{pos:Pos}(hp:PassesOwn (model X.prog X.w) X.A X.env X.xe)(hc:X.calm=true)(hi:PI X tg iter wi)(hg:PG X tg g)(hb:PSs X body tb)
  (hs:∀ x,foldedSetIterable iter X.env x=pure x:=by intro _;rfl):PS X (.For tg iter body [] pos) (IZ wi g tb):=by
 intro pins s σ H D I h;refine wpAny_For (thn (hi pins s σ H _ I h) λ v s1 h1=>thn h1 λ itv s2 h2=>?_) hs;obtain⟨it,fp,tn,J,H2,e,I2,T,st2,f2,W,⟨m0,w0⟩,turn⟩:=h2;subst e;have stat:∀ {H':Hp},(∀ b∈fp,H' b=none)->∀ b∈fp,nO X pins H' b:=λ hn b hb=>⟨hn b hb,(f2 b hb).2⟩;refine codeAny_forLoop_any (λ n s'=>∃ i σ' H',Inv X pins σ' H' s'/\tn i s'.heap/\(∀ b∈fp,H' b=none)/\W i n σ' H') ?_ m0 ⟨0,σ,H2,I2,st2,λ b hb=>(f2 b hb).1,w0⟩;rintro n s3 ⟨i,σ3,H3,I3,st3,fr3,w3⟩
 rcases turn i n σ3 H3 w3 with ⟨stop,qn⟩|⟨go,N,hN,step⟩
 ·refine LO hp (thn (T.done X rfl rfl rfl hc i pins s3 σ3 H3 X.xe I3 (stat fr3) st3 stop) λ r s4 ⟨hr,I4⟩=>?_);subst hr;exact MY ⟨σ3,H3,I4,qn⟩
 ·refine LO hp (thn (T.item X rfl rfl rfl hc i pins s3 σ3 H3 X.xe I3 (stat fr3) st3 go) λ r s4 ⟨u,hr,h4⟩=>?_);subst hr;refine LO hp (thn h4 λ _ s5 ⟨x,H5,I5,r5,y5,st5,fr5⟩=>?_);have I5':=I5.pinned (stat fr5) (T.obj _ _ st5);refine LO hp (thn (hg _ s5 σ3 H5 x u _ I5' r5 (step x H5 y5)) λ _ s6 ⟨σ6,H6,I6,q6⟩=>?_);refine LO hp (thn (hb _ s6 σ6 H6 _ I6 q6) λ f s7 q7=>?_)
  have again:∀ {σ7:St} {H7:Hp},Inv X (pins++l0 fp s5.heap) σ7 H7 s7->N σ7 H7->∃ m,m < n/\∃ i σ' H',Inv X pins σ' H' s7/\tn i s7.heap/\(∀ b∈fp,H' b=none)/\W i m σ' H':=λ {σ7 H7} I7 n7=>by
   obtain⟨m',hm,w7⟩:=hN σ7 H7 n7;refine⟨m',hm,i+1,σ7,H7,I7.unpinned,T.keep _ _ _ st5 λ b hb o e=>(I7.pin (b,o) (KU _ (KU _ (eL hb e)))).1,λ b hb=>?_,w7⟩;obtain⟨o,e,d⟩:=T.obj _ _ st5 b hb;exact(I7.pin (b,o) (KU _ (KU _ (eL hb e)))).2.1
  cases f with
  | next=>obtain⟨σ7,H7,I7,n7⟩:=q7;exact again I7 n7
  | cont=>obtain⟨σ7,H7,I7,n7⟩:=q7;exact again I7 n7
  | brk=>obtain⟨σ7,H7,I7,q7⟩:=q7;exact⟨σ7,H7,I7.unpinned,q7⟩
  | ret v=>obtain⟨x7,σ7,H7,I7,r7,q7⟩:=q7;exact⟨x7,σ7,H7,I7.unpinned,r7,q7⟩
end
theorem zk{K:PySem.W.Frag}{a:Addr}{xs:List V}{g:TG}{tb:TS}{D:pH}{σ:St}{H:Hp}(Pv:Nat->St->Hp->Prop)(h0:Pv 0 σ H)(hl:∀ i σ H,i<=xs.length->Pv i σ H->SqL K H a xs)
  (hs:∀ i x σ H,xs[i]? = some x->Pv i σ H->g x σ H λ σ2 H2=>tb { D with nx:=Pv (i+1),ct:=Pv (i+1),bk:=D.nx } σ2 H2) (hd:∀ σ H,Pv xs.length σ H->D.nx σ H) :
  ∃ W:Nat->Nat->St->Hp->Prop,(∃ m,W 0 m σ H)/\∀ i m σ H,W i m σ H →
   ((Itl K a).stop i H/\D.nx σ H)\/((Itl K a).go i H/\∃ N:St->Hp->Prop,(∀ σ' H',N σ' H'->∃ m',m' < m/\W (i+1) m' σ' H')/\∀ x H',(Itl K a).yld i H x H'->g x σ H' λ σ2 H2=>tb { D with nx:=N,ct:=N,bk:=D.nx } σ2 H2):=by
 refine⟨λ i m σ H=>m=xs.length - i/\i<=xs.length/\Pv i σ H,⟨xs.length,by simp,Lk _,h0⟩,?_⟩;rintro i m σ H ⟨rfl,hi,p⟩;have q:=hl i σ H hi p
 by_cases hlt:i < xs.length
 ·refine .inr ⟨⟨xs,xs[i],q,by simp [hlt]⟩,Pv (i+1),λ σ' H' p'=>⟨xs.length - (i+1),by omega,rfl,hlt,p'⟩,λ x H' y=>?_⟩;obtain⟨e,y⟩:=y;subst e;exact hs i x σ _ (y xs q) p
 ·have e:i=xs.length:=by omega
  subst e;exact .inl ⟨⟨xs,q,Kq _⟩,hd σ H p⟩
theorem wW{lo:Int}{n:Nat}{g:TG}{tb:TS}{D:pH}{σ:St}{H:Hp}(Pv:Nat->St->Hp->Prop)(h0:Pv 0 σ H)
  (hs:∀ i σ H,i < n->Pv i σ H->g (.int (lo+i)) σ H λ σ2 H2=>tb { D with nx:=Pv (i+1),ct:=Pv (i+1),bk:=D.nx } σ2 H2) (hd:∀ σ H,Pv n σ H->D.nx σ H) :
  ∃ W:Nat->Nat->St->Hp->Prop,(∃ m,W 0 m σ H)/\∀ i m σ H,W i m σ H →
   ((Itr lo n).stop i H/\D.nx σ H)\/((Itr lo n).go i H/\∃ N:St->Hp->Prop,(∀ σ' H',N σ' H'->∃ m',m' < m/\W (i+1) m' σ' H')/\∀ x H',(Itr lo n).yld i H x H'->g x σ H' λ σ2 H2=>tb { D with nx:=N,ct:=N,bk:=D.nx } σ2 H2):=by
 refine⟨λ i m σ H=>m=n - i/\i<=n/\Pv i σ H,⟨n,by simp,Lk _,h0⟩,?_⟩;rintro i m σ H ⟨rfl,hi,p⟩
 by_cases hlt:i < n
 ·refine .inr ⟨hlt,Pv (i+1),λ σ' H' p'=>⟨n - (i+1),by omega,rfl,hlt,p'⟩,λ x H' y=>?_⟩;obtain⟨e,y⟩:=y;subst e y;exact hs i σ _ hlt p
 ·have e:i=n:=by omega
  subst e;exact .inl ⟨Kq _,hd σ H p⟩
abbrev R2:=V->V->Hp->VK->Prop
def OpR(X:Cx)(f:Value->Value->Sem Value)(r:R2):Prop:=
 ∀ (pins:List (Addr × Obj)) (s:Shared) (σ:St) (H:Hp) (x y:V) (v u:Value) (Q:VK),Inv X pins σ H s->bo x v->bo y u->r x y H Q →
  wpAny (model X.prog X.w) X.A (f v u) (EP X pins σ Q) X.xe s
def UnR(X:Cx)(f:Value->Sem Value)(r:V->Hp->VK->Prop):Prop:=
 ∀ (pins:List (Addr × Obj)) (s:Shared) (σ:St) (H:Hp) (x:V) (v:Value) (Q:VK),Inv X pins σ H s->bo x v->r x H Q →
  wpAny (model X.prog X.w) X.A (f v) (EP X pins σ Q) X.xe s
def bN(X:Cx)(f:Value)(r:List V->Hp->VK->Prop):Prop:=
 ∀ (pins:List (Addr × Obj)) (s:Shared) (σ:St) (H:Hp) (xs:List V) (us:List Value) (Q:VK),Inv X pins σ H s->aX xs us->r xs H Q →
  wpAny (model X.prog X.w) X.A (call f us) (EP X pins σ Q) X.xe s
def tOp(r:R2)(ta tb:TE):TE:=λ σ H Q=>ta σ H λ x H1=>tb σ H1 λ y H2=>r x y H2 Q
def tUn(r:V->Hp->VK->Prop)(ta:TE):TE:=λ σ H Q=>ta σ H λ x H1=>r x H1 Q
def rI(C:Int->Int->Prop)(g:Int->Int->V):R2:=λ x y H Q=>∃ i j,x=.int i/\y=.int j/\C i j/\Q (g i j) H
def rI0(g:Int->Int->V):R2:=λ x y H Q=>∃ i j,x=.int i/\y=.int j/\Q (g i j) H
def rU(g:Int->V):V->Hp->VK->Prop:=λ x H Q=>∃ i,x=.int i/\Q (g i) H
section
variable {X:Cx}{a b c:Expr}{ta tb tc:TE}{pos:Pos}
theorem HA(ha:PE X a ta)(hb:PE X b tb){pins:List (Addr × Obj)}{s:Shared}{σ:St}{H:Hp}{R:V->V->Hp->Prop}(I:Inv X pins σ H s)
  (h:ta σ H λ x H1=>tb σ H1 λ y H2=>R x y H2) {Q:Value->Shared->Prop} {f:Value->Value->Sem Value}
  (hf:∀ v u s2 x y H2,Inv X pins σ H2 s2->bo x v->bo y u->R x y H2->wpAny (model X.prog X.w) X.A (f v u) Q X.xe s2) :
  wpAny (model X.prog X.w) X.A (eval a X.env) (λ v s₁=>wpAny (model X.prog X.w) X.A (eval b X.env) (λ u s₂=>wpAny (model X.prog X.w) X.A (f v u) Q X.xe s₂) X.xe s₁) X.xe s:=by
 refine thn (ha pins s σ H _ I h) λ v s1 ⟨x,H1,I1,r1,q1⟩=>?_;refine thn (hb pins s1 σ H1 _ I1 q1) λ u s2 ⟨y,H2,I2,r2,q2⟩=>?_;exact hf v u s2 x y H2 I2 r1 r2 q2
theorem dZ{op:Operator}{r:R2}(ho:OpR X (binaryOp op) r)(ha:PE X a ta)(hb:PE X b tb):PE X (.BinOp a op b pos) (tOp r ta tb):=by
 intro pins s σ H Q I h;exact wpAny_BinOp (HA ha hb I h λ v u s2 x y H2 I2 rx ry q=>ho pins s2 σ H2 x y v u Q I2 rx ry q)
theorem DP{op:UnaryOp}{r:V->Hp->VK->Prop}(ho:UnR X (unaryOp op) r)(ha:PE X a ta):PE X (.UnaryOp op a pos) (tUn r ta):=by
 intro pins s σ H Q I h;exact UnaryOp_ (thn (ha pins s σ H _ I h) λ v s1 ⟨x,H1,I1,r1,q1⟩=>ho pins s1 σ H1 x v Q I1 r1 q1)
theorem opI{f:Value->Value->Sem Value}{C:Int->Int->Prop}{g:Int->Int->Int}
  (rule:∀ (i j:Int) (t u:Tok) (s:Shared) (Q:Value->Shared->Prop) (E:Value->Shared->Prop),C i j->Q (.int (g i j) s.toks) { s with toks:=s.toks+1 }->wpAny (model X.prog X.w) X.A (f (.int i t) (.int j u)) Q E s) :
  OpR X f (rI C λ i j=>.int (g i j)):=by
 intro pins s σ H x y v u Q I rx ry h;obtain⟨i,j,rfl,rfl,hc,q⟩:=h;obtain⟨t,rfl⟩:=rx;obtain⟨t',rfl⟩:=ry;exact rule i j t t' s _ _ hc ⟨.int (g i j),H,I.tok _,⟨_,rfl⟩,q⟩
theorem Jh{f:Value->Value->Sem Value}{g:Int->Int->Int}
  (rule:∀ (i j:Int) (t u:Tok) (s:Shared) (Q:Value->Shared->Prop) (E:Value->Shared->Prop),Q (.int (g i j) s.toks) { s with toks:=s.toks+1 }->wpAny (model X.prog X.w) X.A (f (.int i t) (.int j u)) Q E s) :
  OpR X f (rI0 λ i j=>.int (g i j)):=by
 intro pins s σ H x y v u Q I rx ry h;obtain⟨i,j,rfl,rfl,q⟩:=h;obtain⟨t,rfl⟩:=rx;obtain⟨t',rfl⟩:=ry;exact rule i j t t' s _ _ ⟨.int (g i j),H,I.tok _,⟨_,rfl⟩,q⟩
theorem GG{f:Value->Value->Sem Value}{g:Int->Int->Bool}
  (rule:∀ (i j:Int) (t u:Tok) (s:Shared) (Q:Value->Shared->Prop) (E:Value->Shared->Prop),Q (.bool (g i j)) s->wpAny (model X.prog X.w) X.A (f (.int i t) (.int j u)) Q E s) :
  OpR X f (rI0 λ i j=>.bl (g i j)):=by
 intro pins s σ H x y v u Q I rx ry h;obtain⟨i,j,rfl,rfl,q⟩:=h;obtain⟨t,rfl⟩:=rx;obtain⟨t',rfl⟩:=ry;exact rule i j t t' s _ _ ⟨.bl (g i j),H,I,rfl,q⟩
def HD(i j:Int):Prop:=0 < j/\j < 1073741824
def HC(i j:Int):Prop:=0<=j/\j<=1000000/\i.natAbs < 2 ^ 64
def fU(i j:Int):Prop:=(-(2 ^ 64) < i/\i < 2 ^ 64)\/(-(2 ^ 64) < j/\j < 2 ^ 64)
theorem fU.ok{i j:Int}(h:fU i j):IntMulOk i j:=by
 rcases h with ⟨h1,h2⟩|⟨h1,h2⟩
 ·exact .of_left (intBits_le_64 h1 h2)
 ·exact .of_right (intBits_le_64 h1 h2)
theorem pL:OpR X (binaryOp .Add) (rI0 λ i j=>.int (i+j)):=Jh λ _ _ _ _ _ _ _ q=>add_int q
theorem EC:OpR X (binaryOp .Sub) (rI0 λ i j=>.int (i - j)):=Jh λ _ _ _ _ _ _ _ q=>sub_int q
theorem gA:OpR X (binaryOp .Mult) (rI fU λ i j=>.int (i * j)):=opI λ _ _ _ _ _ _ _ hc q=>mul_int q hc.ok
theorem BD:OpR X (binaryOp .FloorDiv) (rI HD λ i j=>.int (i / j)):=opI λ i j _ _ _ _ _ hc q=>by
 have h1:(0:Int) < j:=hc.1;have h2:j < 1073741824:=hc.2;exact floordiv_int (by omega) (by rw [LL i (by omega)];exact q) (.inl (PyProof.noPylong_small (by omega)))
theorem hV:OpR X (binaryOp .Mod) (rI (λ _ j=>0 < j) λ i j=>.int (i % j)):=opI λ i j _ _ _ _ _ hc q=>by
 have h1:(0:Int) < j:=hc;exact mod_int' (by omega) (by rw [Int.fmod_eq_emod_of_nonneg i (by omega)];exact q)
theorem ED:OpR X (binaryOp .Pow) (rI HC λ i j=>.int (i ^ j.toNat)):=opI λ _ _ _ _ _ _ _ hc q=>pow_int_small hc.1 hc.2.1 hc.2.2 q
theorem unI{f:Value->Sem Value}{g:Int->Int}
  (rule:∀ (i:Int) (t:Tok) (s:Shared) (Q:Value->Shared->Prop) (E:Value->Shared->Prop),Q (.int (g i) s.toks) { s with toks:=s.toks+1 }->wpAny (model X.prog X.w) X.A (f (.int i t)) Q E s) :
  UnR X f (rU λ i=>.int (g i)):=by
 intro pins s σ H x v Q I rx h;obtain⟨i,rfl,q⟩:=h;obtain⟨t,rfl⟩:=rx;exact rule i t s _ _ ⟨.int (g i),H,I.tok _,⟨_,rfl⟩,q⟩
theorem Ed:UnR X (unaryOp .USub) (rU λ i=>.int (-i)):=unI λ _ _ _ _ _ q=>neg_int q
end
def Dr:V->V->Bool
 | .non,.non=>true | .non,.int _=>true | .int _,.non=>true | .non,.bl _=>true | .bl _,.non=>true | .non,.str _=>true | .str _,.non=>true
 | .int _,.int _=>true | .bl _,.bl _=>true | .str _,.str _=>true | .byt _,.byt _=>true
 | .int _,.str _=>true | .str _,.int _=>true | .bl _,.str _=>true | .str _,.bl _=>true
 | _,_=>false
def rEq:R2:=λ x y H Q=>Dr x y=true/\Q (.bl (decide (x=y))) H
def rNe:R2:=λ x y H Q=>Dr x y=true/\Q (.bl (!decide (x=y))) H
theorem u4{i j:Int}:decide (V.int i=V.int j)=(i == j):=by
 rw [L3];simp
theorem Ak{i j:Bool}:decide (V.bl i=V.bl j)=(i == j):=by
 rw [L3];simp
theorem u3{i j:Str}:decide (V.str i=V.str j)=(i == j):=by
 rw [L3];simp
theorem u5{i j:Array UInt8}:decide (V.byt i=V.byt j)=(i.toList == j.toList):=by
 rw [L3];cases i;cases j;simp
section
variable {X:Cx}{a b c:Expr}{ta tb tc:TE}{pos:Pos}
theorem aK{pins:List (Addr × Obj)}{σ:St}{H:Hp}{s:Shared}{Q:VK}{k k':Bool}(I:Inv X pins σ H s)(q:Q (.bl k) H)(e:k=k'):EP X pins σ Q (.bool k') s:=by
 subst e;exact⟨.bl k,H,I,rfl,q⟩
theorem HN:OpR X (compareOp .Eq) rEq:=by
 intro pins s σ H x y v u Q I rx ry h;obtain⟨hs,q⟩:=h
 cases x with
 | non=>
  cases rx
  cases y with
  | non=>cases ry;exact PySem.EqNone.eq_none_none (aK I q (by simp))
  | bl j=>cases ry;exact PySem.EqNone.eq_none_bool (aK I q (by simp))
  | int j=>obtain⟨t',rfl⟩:=ry;exact PySem.EqNone.eq_none_int (aK I q (by simp))
  | str j=>obtain⟨t',rfl⟩:=ry;exact PySem.EqNone.eq_none_str (aK I q (by simp))
  | _=>exact absurd (show false=true from hs) Kw
 | bl i=>
  cases rx
  cases y with
  | non=>cases ry;exact PySem.EqNone.eq_bool_none (aK I q (by simp))
  | bl j=>cases ry;exact eq_bool (aK I q Ak)
  | str j=>obtain⟨t',rfl⟩:=ry;exact PySem.EqMixed.eq_bool_str (aK I q (by simp))
  | _=>exact absurd (show false=true from hs) Kw
 | int i=>
  obtain⟨t,rfl⟩:=rx
  cases y with
  | non=>cases ry;exact PySem.EqNone.eq_int_none (aK I q (by simp))
  | int j=>obtain⟨t',rfl⟩:=ry;exact eq_int (aK I q u4)
  | str j=>obtain⟨t',rfl⟩:=ry;exact PySem.EqMixed.eq_int_str (aK I q (by simp))
  | _=>exact absurd (show false=true from hs) Kw
 | str i=>
  obtain⟨t,rfl⟩:=rx
  cases y with
  | non=>cases ry;exact PySem.EqNone.eq_str_none (aK I q (by simp))
  | bl j=>cases ry;exact PySem.EqMixed.eq_str_bool (aK I q (by simp))
  | int j=>obtain⟨t',rfl⟩:=ry;exact PySem.EqMixed.eq_str_int (aK I q (by simp))
  | str j=>obtain⟨t',rfl⟩:=ry;exact eq_str (aK I q u3)
  | _=>exact absurd (show false=true from hs) Kw
 | byt i=>
  obtain⟨t,rfl⟩:=rx
  cases y with
  | byt j=>obtain⟨t',rfl⟩:=ry;exact W.eq_bytes (aK I q u5)
  | _=>exact absurd (show false=true from hs) Kw
 | _=>cases y<;>exact absurd (show false=true from hs) Kw
theorem HK:OpR X (compareOp .NotEq) rNe:=by
 intro pins s σ H x y v u Q I rx ry h;obtain⟨hs,q⟩:=h
 cases x with
 | non=>
  cases rx
  cases y with
  | non=>cases ry;exact PySem.EqNone.ne_none_none (aK I q (by simp))
  | bl j=>cases ry;exact PySem.EqNone.ne_none_bool (aK I q (by simp))
  | int j=>obtain⟨t',rfl⟩:=ry;exact PySem.EqNone.ne_none_int (aK I q (by simp))
  | str j=>obtain⟨t',rfl⟩:=ry;exact PySem.EqNone.ne_none_str (aK I q (by simp))
  | _=>exact absurd (show false=true from hs) Kw
 | bl i=>
  cases rx
  cases y with
  | non=>cases ry;exact PySem.EqNone.ne_bool_none (aK I q (by simp))
  | bl j=>cases ry;exact ne_bool (aK I q (Lv not Ak))
  | str j=>obtain⟨t',rfl⟩:=ry;exact PySem.EqMixed.ne_bool_str (aK I q (by simp))
  | _=>exact absurd (show false=true from hs) Kw
 | int i=>
  obtain⟨t,rfl⟩:=rx
  cases y with
  | non=>cases ry;exact PySem.EqNone.ne_int_none (aK I q (by simp))
  | int j=>obtain⟨t',rfl⟩:=ry;exact ne_int (aK I q (Lv not u4))
  | str j=>obtain⟨t',rfl⟩:=ry;exact PySem.EqMixed.ne_int_str (aK I q (by simp))
  | _=>exact absurd (show false=true from hs) Kw
 | str i=>
  obtain⟨t,rfl⟩:=rx
  cases y with
  | non=>cases ry;exact PySem.EqNone.ne_str_none (aK I q (by simp))
  | bl j=>cases ry;exact PySem.EqMixed.ne_str_bool (aK I q (by simp))
  | int j=>obtain⟨t',rfl⟩:=ry;exact PySem.EqMixed.ne_str_int (aK I q (by simp))
  | str j=>obtain⟨t',rfl⟩:=ry;exact ne_str (aK I q (Lv not u3))
  | _=>exact absurd (show false=true from hs) Kw
 | byt i=>
  obtain⟨t,rfl⟩:=rx
  cases y with
  | byt j=>obtain⟨t',rfl⟩:=ry;exact W.ne_bytes (aK I q (Lv not u5))
  | _=>exact absurd (show false=true from hs) Kw
 | _=>cases y<;>exact absurd (show false=true from hs) Kw
theorem DQ:OpR X (compareOp .Lt) (rI0 λ i j=>.bl (decide (i < j))):=GG λ _ _ _ _ _ _ _ q=>lt_int q
theorem HL:OpR X (compareOp .LtE) (rI0 λ i j=>.bl (decide (i<=j))):=GG λ _ _ _ _ _ _ _ q=>le_int q
theorem DR:OpR X (compareOp .Gt) (rI0 λ i j=>.bl (decide (j < i))):=GG λ _ _ _ _ _ _ _ q=>gt_int q
theorem HM:OpR X (compareOp .GtE) (rI0 λ i j=>.bl (decide (j<=i))):=GG λ _ _ _ _ _ _ _ q=>ge_int q
theorem EG:OpR X (compareOp .Is) (λ x y H Q=>y=.non/\Q (.bl (decide (x=.non))) H):=by
 intro pins s σ H x y v u Q I rx ry h;obtain⟨rfl,q⟩:=h;cases ry;refine is_none_gen (aK I q ?_)
 cases x<;>first
  | (cases rx;rfl)
  | (obtain⟨t,rfl⟩:=rx;rfl)
theorem BC:OpR X (compareOp .IsNot) (λ x y H Q=>y=.non/\Q (.bl (!decide (x=.non))) H):=by
 intro pins s σ H x y v u Q I rx ry h;obtain⟨rfl,q⟩:=h;cases ry;refine isnot_none_gen (aK I q ?_)
 cases x<;>first
  | (cases rx;rfl)
  | (obtain⟨t,rfl⟩:=rx;rfl)
theorem OpR.or{f:Value->Value->Sem Value}{r r':R2}(h:OpR X f r)(h':OpR X f r'):OpR X f (λ x y H Q=>r x y H Q\/r' x y H Q):=by
 intro pins s σ H x y v u Q I rx ry q
 rcases q with q|q
 ·exact h pins s σ H x y v u Q I rx ry q
 ·exact h' pins s σ H x y v u Q I rx ry q
theorem af(b:Expr){op:CmpOp}(h:op ≠ .In:=by decide)(h2:op ≠ .NotIn:=by decide):behindInMarks op b=false:=by
 have e1:(op == CmpOp.In)=false:=by cases op<;>first|rfl|exact absurd rfl h
 have e2:(op == CmpOp.NotIn)=false:=by cases op<;>first|rfl|exact absurd rfl h2
 cases b<;>simp [behindInMarks,e1,e2]
theorem Bu{op:CmpOp}{r:R2}(ho:OpR X (compareOp op) r)(ha:PE X a ta)(hb:PE X b tb)(hm:behindInMarks op b=false):PE X (.Compare a [op] [b] pos) (tOp r ta tb):=by
 intro pins s σ H Q I h;exact wpAny_Compare1 (HA ha hb I h λ v u s2 x y H2 I2 rx ry q=>ho pins s2 σ H2 x y v u Q I2 rx ry q) hm
def xB(t:TE):TT:=λ σ H Q=>t σ H λ x H'=>∃ k,x=.bl k/\Q k H'
theorem oy{op:CmpOp}{r:R2}(ho:OpR X (compareOp op) r)(ha:PE X a ta)(hb:PE X b tb)(hm:behindInMarks op b=false):PT X (.Compare a [op] [b] pos) (xB (tOp r ta tb)):=by
 intro pins s σ H Q I h
 refine wpAny_isTrue_Compare1 (thn (ha pins s σ H _ I h) λ v s1 ⟨x,H1,I1,r1,q1⟩=>thn (hb pins s1 σ H1 _ I1 q1) λ u s2 ⟨y,H2,I2,r2,q2⟩=>
  thn (ho pins s2 σ H2 x y v u _ I2 r1 r2 q2) λ c s3 ⟨z,H3,I3,r3,k,e,q3⟩=>?_) hm
 subst e;cases r3;exact Li ⟨H3,I3,q3⟩
def tQ(r r':R2)(ta tb tc:TE):TE:=λ σ H Q=>ta σ H λ x H1=>tb σ H1 λ y H2=>r x y H2 λ z H3=>∃ k,z=.bl k /\
 (if k=true then tc σ H3 λ w' H4=>r' y w' H4 Q else Q (.bl false) H3)
theorem yh{op op':CmpOp}{r r':R2}(ho:OpR X (compareOp op) r)(ho':OpR X (compareOp op') r')(ha:PE X a ta)(hb:PE X b tb)(hc:PE X c tc)
  (hm:lastMarks [op,op'] [b,c]=false:=by with_unfolding_all rfl):PE X (.Compare a [op,op'] [b,c] pos) (tQ r r' ta tb tc):=by
 intro pins s σ H Q I h
 refine Compare_chain (thn (ha pins s σ H _ I h) λ v s1 ⟨x,H1,I1,r1,q1⟩=>chain_link (thn (hb pins s1 σ H1 _ I1 q1) λ u s2 ⟨y,H2,I2,r2,q2⟩=>
  thn (ho pins s2 σ H2 x y v u _ I2 r1 r2 q2) λ d s3 ⟨z,H3,I3,r3,k,e,q3⟩=>?_)) hm
 subst e;cases r3;refine Li ?_
 cases k with
 | false=>exact ite_ff ⟨.bl false,H3,I3,rfl,q3⟩
 | true=>exact ite_tt (chain_last (thn (hc pins s3 σ H3 _ I3 q3) λ w' s4 ⟨z',H4,I4,r4,q4⟩=>ho' pins s4 σ H4 y z' u w' Q I4 r2 r4 q4))
theorem x9{op op':CmpOp}{r r':R2}(ho:OpR X (compareOp op) r)(ho':OpR X (compareOp op') r')(ha:PE X a ta)(hb:PE X b tb)(hc:PE X c tc)
  (hm:lastMarks [op,op'] [b,c]=false:=by with_unfolding_all rfl):PT X (.Compare a [op,op'] [b,c] pos) (xB (tQ r r' ta tb tc)):=by
 intro pins s σ H Q I h
 refine isTrue_chain (thn (ha pins s σ H _ I h) λ v s1 ⟨x,H1,I1,r1,q1⟩=>test_link (thn (hb pins s1 σ H1 _ I1 q1) λ u s2 ⟨y,H2,I2,r2,q2⟩=>
  thn (ho pins s2 σ H2 x y v u _ I2 r1 r2 q2) λ d s3 ⟨z,H3,I3,r3,k,e,q3⟩=>?_)) hm
 subst e;cases r3;refine Li ?_
 cases k with
 | false=>
  obtain⟨k',e',q'⟩:=q3;cases e';exact ite_ff ⟨H3,I3,q'⟩
 | true=>
  refine ite_tt (test_last (thn (hc pins s3 σ H3 _ I3 q3) λ w' s4 ⟨z',H4,I4,r4,q4⟩=>thn (ho' pins s4 σ H4 y z' u w' _ I4 r2 r4 q4) λ d' s5 ⟨z2,H5,I5,r5,k2,e2,q5⟩=>?_));subst e2;cases r5;exact Li ⟨H5,I5,q5⟩
theorem ma:(sizeLine:Nat) < 2 ^ 63:=by rw [sizeLine_eq];decide
theorem sZ{x:V}{us:List Value}(r:aX [x] us):∃ u,us=[u]/\bo x u:=by
 cases r with
 | cons r1 r2=>cases r2;exact⟨_,rfl,r1⟩
theorem Au{x y:V}{us:List Value}(r:aX [x,y] us):∃ u w',us=[u,w']/\bo x u/\bo y w':=by
 cases r with
 | cons r1 r2=>
  cases r2 with
  | cons r3 r4=>cases r4;exact⟨_,_,rfl,r1,r3⟩
theorem zD:bN X (.builtin "abs") (λ xs H Q=>∃ i,xs=[.int i]/\Q (.int (if i < 0 then -i else i)) H):=by
 intro pins s σ H xs us Q I r h;obtain⟨i,rfl,q⟩:=h;obtain⟨u,rfl,t,rfl⟩:=sZ r;exact call_abs_int λ u tk=>⟨.int (if i < 0 then -i else i),H,I.tok _,⟨_,rfl⟩,q⟩
theorem xb(hc:X.calm=true):bN X (.builtin "max") (λ xs H Q=>∃ i j,xs=[.int i,.int j]/\Q (.int (if j > i then j else i)) H):=by
 intro pins s σ H xs us Q I r h;obtain⟨i,j,rfl,q⟩:=h;obtain⟨u,w',rfl,⟨t,rfl⟩,⟨t',rfl⟩⟩:=Au r;refine max_two_ints (I.ok.hd hc) λ h' tk k=>⟨_,H,I.kept k,?_,q⟩
 by_cases hj:j > i
 ·rw [Kx hj,Kx hj];exact⟨_,rfl⟩
 ·rw [Ks hj,Ks hj];exact⟨_,rfl⟩
theorem xa(hc:X.calm=true):bN X (.builtin "min") (λ xs H Q=>∃ i j,xs=[.int i,.int j]/\Q (.int (if j < i then j else i)) H):=by
 intro pins s σ H xs us Q I r h;obtain⟨i,j,rfl,q⟩:=h;obtain⟨u,w',rfl,⟨t,rfl⟩,⟨t',rfl⟩⟩:=Au r;refine min_two_ints (I.ok.hd hc) λ h' tk k=>⟨_,H,I.kept k,?_,q⟩
 by_cases hj:j < i
 ·rw [Kx hj,Kx hj];exact⟨_,rfl⟩
 ·rw [Ks hj,Ks hj];exact⟨_,rfl⟩
end
structure Aq(h:Heap)(x dx C:Addr)(mA:Str->Option Value):Prop where
 obj:h.get? x=some (W.instObj C dx)
 ns:h.Ns1 dx mA
 ne:dx ≠ x
theorem wo{h:Heap}{dx:Addr}{mA:Str->Option Value}(n:h.Ns1 dx mA):∃ od,h.get? dx=some od/\∀ name,W.lookIn name od=some (mA name):=by
 obtain⟨o,es,ep,ho,hd,hk,_,hm⟩:=n;refine⟨o,ho,λ name=>?_⟩;have e:=hm name;unfold nsFind findBy at e;rw [←Array.find?_toList] at e;unfold W.lookIn;rw [hd];dsimp only;split
 ·rename_i y q;rw [q] at e;exact Lv some e
 ·rename_i q;rw [q] at e
  have a:es.toList.any (·.refKey)=false:=by
   rw [List.any_eq_false];intro y hy;obtain⟨z,t,hkey⟩:=hk y (Array.mem_toList_iff.mp hy);simp [DictEntry.refKey,hkey]
  have a':¬ es.toList.any (·.refKey)=true:=by rw [a];exact Kw
  rw [Ks a'];exact Lv some e
theorem Aq.look{h:Heap}{x dx C:Addr}{mA:Str->Option Value}(I:Aq h x dx C mA):∃ od,W.InstAt h x (W.instObj C dx) C (some od)/\∀ name,W.lookIn name od=some (mA name):=
 let ⟨od,ho,hl⟩:=wo I.ns
 ⟨od,⟨I.obj,rfl,rfl,ho⟩,hl⟩
section
variable {prog:Program}{w:World}{A:Around}{E:Value->Shared->Prop}{s:Shared}{K:PySem.W.Frag}{x dx C f:Addr}{mA:Str->Option Value}{name:Str}{v:Value}
theorem CL{expr:Bool}{Q:Value->Shared->Prop}(X:K.In s.heap)(I:Aq s.heap x dx C mA)(hg:W.plainGet K C name=true)(hh:W.hasDictIn K C=true)
  (ha:W.findIn K (.ref C) name=some none) (hv:mA name=some v) (hv':W.handedIn v=true) (h:Q v { s with toks:=s.toks+1 }) :
  wpAny (model prog w) A (getAttr (.ref x) name expr) Q E s:=by
 obtain⟨od,J,hl⟩:=I.look;exact W.get_value X J (W.plainGet_of hg).1 (W.findObj_own hh ha rfl (by rw [hl,hv])) hv' h
theorem za{pl:Sem Bool}{Q:Value × List Value->Shared->Prop}(X:K.In s.heap)(I:Aq s.heap x dx C mA)(hg:W.plainGet K C name=true)
  (hf:W.findIn K (.ref C) name=some (some (.ref f))) (ht:W.isFn K (.ref f)=true) (hv:mA name=none) (h:Q (.ref f,[.ref x]) s) :
  wpAny (model prog w) A (getMethod (.ref x) name pl) Q E s:=by
 obtain⟨od,J,hl⟩:=I.look;exact W.method_fn X J (W.plainGet_of hg).1 (W.plainGet_of hg).2 hf (M7.mp ht) (by show (W.lookIn name od).map (·.isSome)=some false;rw [hl,hv];rfl) h
theorem Bg{ns:List Str}{Q:Unit->Shared->Prop}(X:K.In s.heap)(I:Aq s.heap x dx C mA)
  (hs:W.findIn K (.ref C) "__setattr__"=some (some (.builtin "object.__setattr__"))) (hp:W.plainOver K C=true) (ht:W.takerIn K C name=some none) (hh:W.hasDictIn K C=true)
  (hw:PySem.Within mA ns) (hsz:ns.length<=sizeLine)
  (h:∀ h',Aq h' x dx C (λ y=>if y=name then some v else mA y)->Heap.SameBut dx s.heap h'->Q () { s with heap:=h',toks:=s.toks+2 }) :
  wpAny (model prog w) A (setAttr (.ref x) name v) Q E s:=by
 obtain⟨od,J,hl⟩:=I.look;refine W.set_plain X J hs (W.osa_open (s:={ s with toks:=s.toks+1 }) (r:=none) X J hp ht λ b=>?_);obtain⟨cd,hc,hd'⟩:=W.any_some hh;have hx:s.heap.get? x=some ⟨.ref C,some dx,.plain,#[]⟩:=I.obj;refine Kl (Kv (Kl (Kl (wpAny_loadPart hx (Kl (W.Looks.here (s:={ s with toks:=s.toks+1 }) (W.looks_clsIn X hc) ?_))))));rw [hd'];refine Kv (a:=some dx) (Kl (Kv (Kl ?_)));refine wpAny_nsSet1 (s:={ s with toks:=s.toks+1 }) I.ns λ h' hn2 hs2=>?_;obtain⟨oD,esD,epD,hoD,hdD,hcD⟩:=hn2.count (PySem.Within.cons name v hw);refine Kl (wpAny_lookBehind hoD (by rw [hdD];exact pastItsLine_dict (Le hcD (by rw [KY];omega))) ?_);exact Kv (h _ ⟨(hs2.2 _ (K6 I.ne)).trans I.obj,hn2,I.ne⟩ hs2)
theorem yp{R:Result->Shared->Prop}{vs:List Value}{kw:List (Str × Value)}(X:K.In s.heap)(hm:W.makesIn K C=true)
  (hi:W.findIn K (.ref C) "__init__"=some (some (.ref f))) (hf:W.typeIn K (.ref f)=some (.type "function"))
  (h:codeAny (model prog w) (A.under (.builtin "type.__call__" ⟨.ref C::vs,kw⟩)) (.call (.ref f) ⟨.ref (s.heap.objs.size+1)::vs,kw⟩) (W.InitBack (s.heap.objs.size+1) R)
   { s with heap:=(s.heap.push W.emptyDict).push (W.instObj C s.heap.objs.size) }) :
  codeAny (model prog w) A (.call (.ref C) ⟨vs,kw⟩) R s:=by
 obtain⟨hh,g,d,t,os⟩:=s;exact W.make_core (W.makes_of X hm) (W.looks_findIn X hi) (λ self=>W.bind_fn X self hf) (.inl rfl) h
end
def eD(f:Str)(v:V):List (Str × V)->List (Str × V)
 | []=>[(f,v)]
 | (g,x)::r=>if g=f then (g,v)::r else (g,x)::eD f v r
theorem aM(f g:Str)(v:V):∀ fs:List (Str × V),(eD f v fs).lookup g=if g=f then some v else fs.lookup g
 | []=>by
  show List.lookup g [(f,v)]=_
  by_cases h:g=f
  ·have hb:(g == f)=true:=M7.mpr h;simp only [List.lookup,hb,Kx h]
  ·have hb:(g == f)=false:=LU.mpr h;simp only [List.lookup,hb,Ks h]
 | (k,x)::r=>by
  have ih:=aM f g v r;rw [show eD f v ((k,x)::r)=(if k=f then (k,v)::r else (k,x)::eD f v r) from rfl]
  by_cases hk:k=f
  ·rw [Kx hk]
   by_cases h:g=k
   ·have hb:(g == k)=true:=M7.mpr h;simp only [List.lookup,hb,Kx (h.trans hk)]
   ·have hb:(g == k)=false:=LU.mpr h;simp only [List.lookup,hb,Ks (λ e:g=f=>h (e.trans hk.symm))]
  ·rw [Ks hk]
   by_cases h:g=k
   ·have hb:(g == k)=true:=M7.mpr h;simp only [List.lookup,hb,Ks (λ e:g=f=>hk (h.symm.trans e))]
   ·have hb:(g == k)=false:=LU.mpr h;simp only [List.lookup,hb];exact ih
theorem iK(f:Str)(v:V):∀ fs:List (Str × V),f∈(eD f v fs).map (·.1)/\∀ g,g∈fs.map (·.1)->g∈(eD f v fs).map (·.1)
 | []=>⟨by simp [eD],λ g h=>by simp at h⟩
 | (k,x)::r=>by
  obtain⟨i1,i2⟩:=iK f v r;rw [show eD f v ((k,x)::r)=(if k=f then (k,v)::r else (k,x)::eD f v r) from rfl]
  by_cases hk:k=f
  ·rw [Kx hk];subst hk;exact⟨by simp,λ g h=>by simpa using h⟩
  ·rw [Ks hk];refine⟨?_,λ g h=>?_⟩
   ·rw [KZ];exact Ko _ i1
   ·rw [KZ] at h ⊢
    rcases KS.mp h with e|e
    ·exact KS.mpr (.inl e)
    ·exact Ko _ (i2 g e)
theorem iS(f:Str)(v:V):∀ fs:List (Str × V),(eD f v fs).length<=fs.length+1
 | []=>by simp [eD]
 | (k,x)::r=>by
  have ih:=iS f v r;rw [show eD f v ((k,x)::r)=(if k=f then (k,v)::r else (k,x)::eD f v r) from rfl]
  by_cases hk:k=f
  ·rw [Kx hk,KY,KY];omega
  ·rw [Ks hk,KY,KY];omega
theorem lT.some_of{v:V}{o:Option Value}(r:lT (some v) o):∃ u,o=some u/\bo v u:=by
 cases o with
 | none=>exact(show False from r).elim
 | some u=>exact⟨u,rfl,r⟩
theorem lT.none_of{o:Option Value}(r:lT none o):o=none:=by
 cases o with
 | none=>rfl
 | some u=>exact(show False from r).elim
theorem wV{v:V}{u:Value}(r:bo v u):W.handedIn u=true:=by
 cases v with
 | non=>cases (show u=Value.none from r);rfl
 | bl b=>cases (show u=Value.bool b from r);rfl
 | int i=>obtain⟨t,e⟩:=(show ∃ t,u=Value.int i t from r);cases e;rfl
 | str x=>obtain⟨t,e⟩:=(show ∃ t,u=Value.str x t from r);cases e;rfl
 | byt b=>obtain⟨t,e⟩:=(show ∃ t,u=Value.bytes b t from r);cases e;rfl
 | flt b=>obtain⟨t,e⟩:=(show ∃ t,u=Value.float b t from r);cases e;rfl
 | ref a=>cases (show u=Value.ref a from r);rfl
 | ty n=>cases (show u=Value.type n from r);rfl
section
variable {P:Program}{w:World}{H H':Hp}{h h':Heap}{a C dx:Addr}{fs fs':List (Str × V)}
theorem km(hok:HOk P w H h)(e:H a=some (.ins C dx fs)):∃ mA,Aq h a dx C mA/\(∀ f,lT (fs.lookup f) (mA f))/\PySem.Within mA (fs.map (·.1))/\fs.length<=1000/\H dx=some (.own a):=by
 obtain⟨d,z,ne,ob,mA,n,r,q⟩:=(show b5 P w H h a (.ins C dx fs) from hok a _ e);exact⟨mA,⟨ob,n,ne⟩,r,q,z,d⟩
end
structure Cls(K:W.Frag)(C:Addr):Prop where
 pg:W.plainGet K C Str.empty=true
 hd:W.hasDictIn K C=true
 po:W.plainOver K C=true
 sa:W.findIn K (.ref C) "__setattr__"=some (some (.builtin "object.__setattr__"))
theorem Cls.get{K:W.Frag}{C:Addr}(c:Cls K C)(f:Str):W.plainGet K C f=true:=c.pg
def dP(K:W.Frag)(C:Addr)(f:Str):Prop:=W.findIn K (.ref C) f=some none
theorem dP.taker{K:W.Frag}{C:Addr}{f:Str}(n:dP K C f):W.takerIn K C f=some none:=by
 unfold W.takerIn;rw [show W.findIn K (.ref C) f=some none from n];rfl
structure Ar(K:W.Frag)(C:Addr)(m:Str)(f:Addr):Prop where
 at_:W.findIn K (.ref C) m=some (some (.ref f))
 fn:W.isFn K (.ref f)=true
 kp:W.keepIn K (.ref f)=true
section
variable {X:Cx}{pins:List (Addr × Obj)}{σ:St}{H:Hp}{s:Shared}{a C dx:Addr}{fs:List (Str × V)}{f:Str}{v:V}{A:Around}{E:Value->Shared->Prop}
theorem sv{b:Bool}{Q:Value->Shared->Prop}(I:Inv X pins σ H s)(e:H a=some (.ins C dx fs))(c:Cls X.K C)(n:dP X.K C f)(l:fs.lookup f=some v)
  (h:∀ u s',Inv X pins σ H s'->bo v u->Q u s'):wpAny (model X.prog X.w) A (getAttr (.ref a) f b) Q E s:=by
 obtain⟨mA,O,r,_,_,_⟩:=km I.hok e;obtain⟨u,hu,ru⟩:=lT.some_of (v:=v) (o:=mA f) (by rw [←l];exact r f);exact CL I.kIn O (c.get f) c.hd n hu (wV ru) (h u _ (I.tok _) ru)
theorem su{m:Str}{g:Addr}{pl:Sem Bool}{Q:Value × List Value->Shared->Prop}(I:Inv X pins σ H s)(e:H a=some (.ins C dx fs))(c:Cls X.K C)(k:Ar X.K C m g)(l:fs.lookup m=none)
  (h:Q (.ref g,[.ref a]) s):wpAny (model X.prog X.w) A (getMethod (.ref a) m pl) Q E s:=by
 obtain⟨mA,O,r,_,_,_⟩:=km I.hok e;have hn:mA m=none:=lT.none_of (by rw [←l];exact r m);exact za I.kIn O (c.get m) k.at_ k.fn hn h
theorem qW{y:V}{u:Value}{Q:Unit->Shared->Prop}(I:Inv X pins σ H s)(e:H a=some (.ins C dx fs))(c:Cls X.K C)(n:dP X.K C f)(hl:fs.length < 1000)(ry:bo y u)
  (h:∀ s',Inv X pins σ (upd H a (.ins C dx (eD f y fs))) s'->Q () s'):wpAny (model X.prog X.w) A (setAttr (.ref a) f u) Q E s:=by
 obtain⟨mA,O,r,wi,_,ho⟩:=km I.hok e;have hz:(fs.map (·.1)).length<=sizeLine:=by rw [Kr,sizeLine_eq];omega
 refine Bg I.kIn O c.sa c.po n.taker c.hd wi hz λ h' O' sb=>h _ ?_;have hd:∃ o,h'.get? dx=some o:=let ⟨o,_,_,e',_⟩:=O'.ns;⟨o,e'⟩;refine I.write (x:=a) (e:=dx) (by rw [e];exact True.intro) (.inr ho) (λ b q hb z=>(sb.2 b hb).trans z) hd ?_;refine⟨by rw [ak O.ne];exact ho,?_,O.ne,O'.obj,_,O'.ns,λ g=>?_,λ g hg=>?_⟩
 ·have:=iS f y fs;omega
 ·show lT ((eD f y fs).lookup g) (if g=f then some u else mA g)
  rw [aM]
  by_cases q:g=f
  ·rw [Kx q,Kx q];exact ry
  ·rw [Ks q,Ks q];exact r g
 ·by_cases q:g=f
  ·rw [q];exact(iK f y fs).1
  ·refine(iK f y fs).2 g (wi g λ z=>hg ?_)
   show (if g=f then some u else mA g)=none
   rw [Ks q];exact z
theorem Inv.made(I:Inv X pins σ H s):Inv X pins σ (upd (upd H s.heap.objs.size (.own (s.heap.objs.size+1))) (s.heap.objs.size+1) (.ins C s.heap.objs.size []))
  { s with heap:=(s.heap.push W.emptyDict).push (W.instObj C s.heap.objs.size) }:=by
 have e1:(s.heap.push W.emptyDict).get? s.heap.objs.size=some W.emptyDict:=Kz s.heap rfl
 have e2:((s.heap.push W.emptyDict).push (W.instObj C s.heap.objs.size)).get? (s.heap.objs.size+1)=some (W.instObj C s.heap.objs.size):=by
  have:=Kz (s.heap.push W.emptyDict) (o:=W.instObj C s.heap.objs.size) rfl
  rwa [Lr] at this
 have e3:(s.heap.push W.emptyDict).Ns s.heap.objs.size (λ _=>none):=⟨W.emptyDict,#[],_,e1,rfl,(λ e he=>absurd he (by simp)),λ _=>rfl⟩;have I1:=I.laid (a:=s.heap.objs.size) (o:=.own (s.heap.objs.size+1)) (h':=s.heap.push W.emptyDict) (t':=s.toks) (λ b u q=>Kn _ q) (Kq _) ⟨_,e1⟩;refine I1.laid (a:=s.heap.objs.size+1) (o:=.ins C s.heap.objs.size []) (t':=s.toks) (λ b u q=>Kn _ q) (Nat.le_of_eq (Lr _ _)) ?_;have ne:s.heap.objs.size ≠ s.heap.objs.size+1:=KL (LR _);refine⟨by rw [ak ne,aj],Lk _,ne,e2,λ _=>none,(Heap.Ns1.of_empty e3).at λ o q=>Kn _ q,λ _=>True.intro,λ y hy=>absurd rfl hy⟩
theorem Df{prog:Program}{w:World}{env:Env}{e:Expr}{f:Str}{pos:Pos}{s:Shared}{Q:Value->Shared->Prop}(hb:attributeBase e f env (eval e env)=eval e env)
  (h:wpAny (model prog w) A (eval e env) (λ o s₁=>wpAny (model prog w) A (getAttr o f true) Q E s₁) E s):wpAny (model prog w) A (eval (.Attribute e f pos) env) Q E s:=
 Attribute_any_ h (by rw [arm_eval_Attribute,hb])
end
section
variable {X:Cx}{o e value:Expr}{f:Str}{pos pos' tpos:Pos}{ta tv:TE}
end
section
variable {X:Cx}{pins:List (Addr × Obj)}{σ:St}{H:Hp}{s:Shared}{A:Around}{E:Value->Shared->Prop}{Q:Value->Shared->Prop}{c:Value}{b:Bool}
inductive pG (K:PySem.W.Frag) (H:Hp):V->Value->Prop where
 | non:pG K H .non (.type "NoneType")
 | bl (x:Bool):pG K H (.bl x) (.type "bool")
 | int (i:Int):pG K H (.int i) (.type "int")
 | str (x:Str):pG K H (.str x) (.type "str")
 | flt (x:UInt64):pG K H (.flt x) (.type "float")
 | lst {a:Addr} {xs:List V} (e:H a=some (.lst xs)):pG K H (.ref a) (.type "list")
 | frz {a:Addr} {o:Obj} {xs:List V} (e:H a=some (.frz o (.lst xs))):pG K H (.ref a) (.type "list")
 | tup {a:Addr} {xs:List V} (e:H a=some (.tup xs)):pG K H (.ref a) (.type "tuple")
 | dK {a:Addr} {kvs:List (Key × V)} (e:H a=some (.dK kvs)):pG K H (.ref a) (.type "dict")
 | dT {a:Addr} {kvs:List (List Key × V)} (e:H a=some (.dT kvs)):pG K H (.ref a) (.type "dict")
 | ins {a C dx:Addr} {fs:List (Str × V)} (e:H a=some (.ins C dx fs)) (cl:Cls K C) (ha:PySem.W.findIn K (.ref C) "__class__"=some (some (.builtin "object.__class__")))
   (hn:PySem.W.specialIn K (.builtin "object.__class__") "__get__"=some (some (.builtin "getset_descriptor.__get__"))) (htk:PySem.W.takesIn K (.builtin "object.__class__")=some true)
   (hm:PySem.W.mroIn K C (.type "object")=some true):pG K H (.ref a) (.ref C)
theorem wQ{x:V}{u t:Value}(I:Inv X pins σ H s)(rx:bo x u)(ty:pG X.K H x t)(e:W.kitOne X.K t c=some b)(h:∀ tk,Q (.bool b) { s with toks:=tk }) :
  wpAny (model X.prog X.w) A (call (.builtin "isinstance") [u,c]) Q E s:=by
 cases ty with
 | non=>cases (show u=Value.none from rx);exact L8 W.kitx_none I.kIn True.intro e (λ z=>nomatch z) h
 | bl y=>cases (show u=Value.bool y from rx);exact L8 W.kitx_bool I.kIn True.intro e (λ z=>nomatch z) h
 | int i=>obtain⟨t,q⟩:=(show ∃ t,u=Value.int i t from rx);cases q;exact L8 W.kitx_int I.kIn True.intro e (λ z=>nomatch z) h
 | str y=>obtain⟨t,q⟩:=(show ∃ t,u=Value.str y t from rx);cases q;exact L8 W.kitx_str I.kIn True.intro e (λ z=>nomatch z) h
 | flt y=>obtain⟨t,q⟩:=(show ∃ t,u=Value.float y t from rx);cases q;exact L8 W.kitx_float I.kIn True.intro e (λ z=>nomatch z) h
 | @lst a xs ea=>
  cases (show u=Value.ref a from rx);obtain⟨_,_,n,_,h1⟩:=(show b5 X.prog X.w H s.heap a (.lst xs) from I.hok a _ ea);exact L8 W.kitx_list I.kIn ⟨_,h1,rfl⟩ e (λ z=>nomatch z) h
 | @frz a ob xs ea=>
  cases (show u=Value.ref a from rx);obtain⟨_,_,_,n,_,h1⟩:=(show b5 X.prog X.w H s.heap a (.frz ob (.lst xs)) from I.hok a _ ea);exact L8 W.kitx_list I.kIn ⟨_,h1,rfl⟩ e (λ z=>nomatch z) h
 | @tup a xs ea=>
  cases (show u=Value.ref a from rx);obtain⟨_,_,_,p⟩:=(show b5 X.prog X.w H s.heap a (.tup xs) from I.hok a _ ea);obtain⟨o,h1,h2,_⟩:=p;exact L8 W.kitx_tuple I.kIn ⟨o,h1,h2⟩ e (λ z=>nomatch z) h
 | @dK a kvs ea=>
  cases (show u=Value.ref a from rx);obtain⟨_,_,vs,_,p⟩:=(show b5 X.prog X.w H s.heap a (.dK kvs) from I.hok a _ ea);obtain⟨o,es,ep,h1,h2,_⟩:=p;exact L8 W.kitx_dict I.kIn ⟨o,h1,h2.1⟩ e (λ z=>nomatch z) h
 | @dT a kvs ea=>
  cases (show u=Value.ref a from rx);obtain⟨_,_,xs,_,o,es,ep,h1,h2,_⟩:=(show b5 X.prog X.w H s.heap a (.dT kvs) from I.hok a _ ea);exact L8 W.kitx_dict I.kIn ⟨o,h1,h2.1⟩ e (λ z=>nomatch z) h
 | @ins a C dx fs ea cl ha hn htk hm=>
  cases (show u=Value.ref a from rx);obtain⟨mA,O,_⟩:=km I.hok ea;obtain⟨od,J,_⟩:=O.look;exact L8 (W.kitx_own (cl.get _) cl.hd ha hn htk hm) I.kIn J e (λ z=>nomatch z) h
end
structure gM(k:Nat)(A:Around):Prop where
 hd:A.handled=none
 dp:A.depth+3 * k+5 < recursionLimit
 un:A.units+16 * k+200 < cLine
theorem gM.mono{j k:Nat}{A:Around}(r:gM k A)(h:j<=k):gM j A:=⟨r.hd,by have:=r.dp;omega,by have:=r.un;omega⟩
theorem gM.deeper{k:Nat}{A:Around}(r:gM (k+1) A)(env:Env):gM k (A.deeper env):=
 ⟨r.hd,by have:=r.dp;show A.depth+1+3 * k+5 < _;omega,by have:=r.un;show A.units+3+16 * k+200 < _;omega⟩
theorem rD{A:Around}{C:Addr}{us:List Value}{kw:List (Str × Value)}:(A.under (.builtin "type.__call__" ⟨.ref C::us,kw⟩)).depth=A.depth+1:=by
 first|rfl|simp [Around.under,Code.weight,Code.isCreation,Code.isGuard,Code.isCaller,Code.frames,Code.isFrame,guardIds]
theorem rC{A:Around}{C:Addr}{us:List Value}{kw:List (Str × Value)}:(A.under (.builtin "type.__call__" ⟨.ref C::us,kw⟩)).units=A.units+1:=by
 first|rfl|simp [Around.under,Code.cUnits,Code.frames,Code.isFrame]
theorem gM.make{k:Nat}{A:Around}(r:gM (k+1) A)(C:Addr)(us:List Value)(kw:List (Str × Value)):gM k (A.under (.builtin "type.__call__" ⟨.ref C::us,kw⟩)):=
 ⟨r.hd,by have:=r.dp;rw [rD];omega,by have:=r.un;rw [rC];omega⟩
theorem gM.depth{k:Nat}{A:Around}(r:gM k A):A.depth < recursionLimit:=by have:=r.dp;omega
theorem gM.units{k:Nat}{A:Around}(r:gM k A):A.units+64 < cLine:=by have:=r.un;omega
def Dq:TA:=λ _ H Q=>Q [] H
def tu(ta:TE)(tr:TA):TA:=λ σ H Q=>ta σ H λ x H1=>tr σ H1 λ xs H2=>Q (x::xs) H2
section
variable {X:Cx}{e:Expr}{es:List Expr}{te:TE}{t:TA}{pos:Pos}
theorem cc:PA X [] Dq:=λ _ _ _ _ H Q I h=>Calls.spliced_nil ⟨[],H,I,.nil,h⟩
theorem BA(ha:PE X e te)(hr:PA X es t)(hs:starEach (e::es) X.env=(false,eval e X.env)::starEach es X.env:=by rfl):PA X (e::es) (tu te t):=by
 intro pos pins s σ H Q I h;rw [hs]
 show wpAny _ _ (spliced ((false,eval e X.env)::backTo pos (starEach es X.env))) _ _ s
 refine Nm (thn (ha pins s σ H _ I h) λ u s1 ⟨x,H1,I1,r1,q1⟩=>?_);exact thn (hr pos pins s1 σ H1 _ I1 q1) λ us s2 ⟨xs,H2,I2,r2,q2⟩=>⟨x::xs,H2,I2,.cons r1 r2,q2⟩
end
abbrev Sp:=List V->Hp->VK->XK->Prop
abbrev CXT:=List Env->Hp->Shared->XK->Value->Shared->Prop
structure zU(P:Program)(w:World)(K:W.Frag)(mg:Str->Option Value)(base:Heap)(A:Around)(outer:List Env)(s:Shared)(H:Hp):Prop where
 frames:A.frames=some outer
 mod:Mod K mg base
 bs:∀ b o,base.get? b=some o->s.heap.get? b=some o/\H b=none
 bsz:base.objs.size<=s.heap.objs.size
 funs:s.heap.FunFrames base outer
 frf:∀ b∈frs outer,H b=none
 hok:HOk P w H s.heap
 bare:AllBare s.gens
def CE(outer:List Env)(P:Program)(w:World)(H:Hp)(s:Shared)(Q:VK)(u:Value)(s':Shared):Prop:=
 ∃ v H',s'.os=s.os/\AllBare s'.gens/\Un (frs outer) [] H H' s.heap s'.heap/\HOk P w H' s'.heap/\bo v u/\Q v H'
def CR(CX:CXT)(outer:List Env)(P:Program)(w:World)(H:Hp)(s:Shared)(Q:VK)(E:XK)(r:Result)(s':Shared):Prop:=
 match r with
 | .ok (.ret u)=>CE outer P w H s Q u s'
 | .ok _=>False
 | .error e=>CX outer H s E e s'
structure bq(P:Program)(w:World)(K:W.Frag)(mg:Str->Option Value)(base:Heap)(CX:CXT)(k:Nat)(f:Addr)(fd:FuncData)(ps:List Str)(sp:Sp):Prop where
 len:∀ vs H Q E,sp vs H Q E->vs.length=ps.length
 run:∀ (A:Around) (outer:List Env) (s:Shared) (H:Hp) (args:Args) (us:List Value) (vs:List V) (Q:VK) (E:XK),gM k A->zU P w K mg base A outer s H->BindsTo s fd args (ps.zip us)->aX vs us->sp vs H Q E →
  codeAny (model P w) A (.call (.ref f) args) (CR CX outer P w H s Q E) s
theorem bq.imp{P:Program}{w:World}{K:W.Frag}{mg:Str->Option Value}{base:Heap}{CX:CXT}{k:Nat}{f:Addr}{fd:FuncData}{ps:List Str}{sp sp':Sp}(F:bq P w K mg base CX k f fd ps sp)
  (h:∀ vs H Q E,sp' vs H Q E->sp vs H Q E):bq P w K mg base CX k f fd ps sp':=
 ⟨λ vs H Q E q=>F.len vs H Q E (h _ _ _ _ q),λ A outer s H args us vs Q E hr he hb hv hs=>F.run A outer s H args us vs Q E hr he hb hv (h _ _ _ _ hs)⟩
theorem zU.make{P:Program}{w:World}{K:W.Frag}{mg:Str->Option Value}{base:Heap}{A:Around}{outer:List Env}{s:Shared}{H:Hp}(e:zU P w K mg base A outer s H)(C:Addr)(us:List Value)(kw:List (Str × Value)) :
  zU P w K mg base (A.under (.builtin "type.__call__" ⟨.ref C::us,kw⟩)) outer s H:=⟨by first|exact e.frames|(simpa [Around.under,Code.envs,Code.isFrame,pushEnvs] using e.frames),e.mod,e.bs,e.bsz,e.funs,e.frf,e.hok,e.bare⟩
section
variable {X:Cx}{pins:List (Addr × Obj)}{σ:St}{H:Hp}{s s':Shared}
theorem Inv.env0(I:Inv X pins σ H s):zU X.prog X.w X.K X.mg X.base X.A X.stack s H:=
 ⟨I.ok.frames,I.ok.mod,I.bs,Le I.ok.bsz I.sz,I.stack,I.stkFree,I.hok,I.bare⟩
theorem Inv.after{Q:VK}{u:Value}(I:Inv X pins σ H s)(h:CE X.stack X.prog X.w H s Q u s'):EP X pins σ Q u s':=by
 obtain⟨v,H',os,bare,un,hok,r,q⟩:=h;obtain⟨hh,g,d,t,os'⟩:=s';obtain rfl:os'=s.os:=os;exact⟨v,H',I.call (h':=hh) (g':=g) (d':=d) (t':=t) (ch:=[]) un hok bare (λ b z=>absurd z (by simp)),r,q⟩
end
def DG(sp:Sp)(dvs:List V)(E:XK)(t:TA):TE:=λ σ H Q=>t σ H λ vs H1=>sp (vs++dvs) H1 Q E
def aC(K:W.Frag)(fd:FuncData)(ps:List Str)(ds:List Value):Prop:=
 ∀ (s:Shared) (us:List Value),K.In s.heap->(us++ds).length=ps.length->BindsTo s fd ⟨us,[]⟩ (ps.zip (us++ds))
theorem aC.all{K:W.Frag}{fd:FuncData}{ps:List Str}(h:∀ us:List Value,us.length=ps.length->bindArgs fd ⟨us,[]⟩=pure (ps.zip us)):aC K fd ps []:=λ s us _ hl=>by
 rw [Md] at hl ⊢;exact .of_eq (h us hl)
def jw(CX:CXT)(X:Cx)(E:XK):Prop:=∀ (pins:List (Addr × Obj)) (σ:St) (H:Hp) (s:Shared) (e:Value) (s':Shared),Inv X pins σ H s->CX X.stack H s E e s'->X.xe e s'
section
variable {X:Cx}{CX:CXT}{k:Nat}{f C:Addr}{fd:FuncData}{ps:List Str}{sp:Sp}{dvs:List V}{ds:List Value}{E:XK}{x m:Str}{p pos apos:Pos}{e o:Expr}{es:List Expr}{ta:TE}{t:TA}
theorem zZ{pins:List (Addr × Obj)}{σ:St}{H:Hp}{s:Shared}{Q:VK}{us:List Value}{vs:List V}(F:bq X.prog X.w X.K X.mg X.base CX k f fd ps sp)(hr:gM k X.A)(hb:aC X.K fd ps ds)(hd:aX dvs ds)(hx:jw CX X E)
  (I:Inv X pins σ H s) (r:aX vs us) (h:sp (vs++dvs) H Q E):wpAny (model X.prog X.w) X.A (call (.ref f) us) (EP X pins σ Q) X.xe s:=by
 have r2:aX (vs++dvs) (us++ds):=r.append hd;have hl:(us++ds).length=ps.length:=by rw [←r2.length];exact F.len _ _ _ _ h
 refine wpAny_call (Mz (F.run X.A X.stack s H ⟨us,[]⟩ (us++ds) (vs++dvs) Q E hr I.env0 (hb s us I.kIn hl) r2 h) λ r s' hq=>?_)
 cases r with
 | error e=>exact hx pins σ H s e s' I hq
 | ok fl=>
  cases fl with
  | ret u=>exact I.after hq
  | next=>exact False.elim hq
  | brk=>exact False.elim hq
  | cont=>exact False.elim hq
theorem Bv(F:bq X.prog X.w X.K X.mg X.base CX k f fd ps sp)(hr:gM k X.A)(hg:Gl X x)(hm:X.mg x=some (.ref f))(hk:W.keepIn X.K (.ref f)=true)(hb:aC X.K fd ps ds)(hd:aX dvs ds)(hx:jw CX X E)
  (ha:PA X (e::es) t) (hdb:(x == ("__debug__":Str))=false:=by decide) (he:starEach (e::es) X.env=(false,eval e X.env)::starEach es X.env:=by rfl) (hpl:(backTo pos (starEach es X.env)).any (·.1)=false:=by rfl) :
  PE X (.Call (.Name x p) (e::es) [] pos) (DG sp dvs E t):=by
 intro pins s σ H Q I h;refine L7 (oF I hg hm ?_ hdb);refine W.callWith_K (h₀:=X.base) I.ok.mod.kin hk (thn (ha pos pins s σ H _ I h) λ us s1 ⟨vs,H1,I1,r,q⟩=>⟨I1.kIn,?_⟩) he hpl;exact zZ F hr hb hd hx I1 r q
structure Mk(K:W.Frag)(C f:Addr):Prop where
 makes:W.makesIn K C=true
 init:W.findIn K (.ref C) "__init__"=some (some (.ref f))
 fn:W.isFn K (.ref f)=true
 kp:W.keepIn K (.ref C)=true
theorem xZ{pins:List (Addr × Obj)}{σ:St}{H:Hp}{s:Shared}{Q:VK}{us:List Value}{vs:List V}(M:Mk X.K C f)(F:bq X.prog X.w X.K X.mg X.base CX k f fd ps sp)(hr:gM (k+1) X.A)(hb:aC X.K fd ps ds)(hd:aX dvs ds)
  (hx:jw CX X E) (I:Inv X pins σ H s) (r:aX vs us)
  (h:∀ x dx,H x=none->H dx=none->dx ≠ x->sp (.ref x::(vs++dvs)) (upd (upd H dx (.own x)) x (.ins C dx [])) (λ v H2=>v=.non/\Q (.ref x) H2) E) :
  wpAny (model X.prog X.w) X.A (call (.ref C) us) (EP X pins σ Q) X.xe s:=by
 have hq:=h (s.heap.objs.size+1) s.heap.objs.size (I.hok.fresh (Nat.le_succ _)) (I.hok.fresh (Kq _)) (KL (LR _));have I2:=Inv.made (C:=C) I;have r2:aX (V.ref (s.heap.objs.size+1)::(vs++dvs)) (Value.ref (s.heap.objs.size+1)::(us++ds)):=.cons rfl (r.append hd)
 have hl:(Value.ref (s.heap.objs.size+1)::us++ds).length=ps.length:=by
  have e:=r2.length;rw [F.len _ _ _ _ hq] at e;exact e.symm
 refine wpAny_call (yp (f:=f) I.kIn M.makes M.init (M7.mp M.fn) (Mz (F.run _ X.stack _ _ ⟨Value.ref (s.heap.objs.size+1)::us,[]⟩ (Value.ref (s.heap.objs.size+1)::(us++ds)) _ _ E (hr.make C us [])
  (I2.env0.make C us []) (hb _ (Value.ref (s.heap.objs.size+1)::us) I2.kIn hl) r2 hq) λ r s' hq'=>?_))
 cases r with
 | error e=>exact hx pins σ _ _ e s' I2 hq'
 | ok fl=>
  cases fl with
  | ret u=>
   obtain⟨v,H',I3,rv,ev,q3⟩:=I2.after hq';subst ev;exact⟨rv,⟨V.ref (s.heap.objs.size+1),H',I3,rfl,q3⟩⟩
  | next=>exact False.elim hq'
  | brk=>exact False.elim hq'
  | cont=>exact False.elim hq'
end
def PK(X:Cx)(kws:List Keyword)(t:TA):Prop:=
 ∀ (pos:Pos) (pins:List (Addr × Obj)) (s:Shared) (σ:St) (H:Hp) (Q:List V->Hp->Prop),Inv X pins σ H s->t σ H Q->wpAny (model X.prog X.w) X.A (evalAll ((backToKw pos (keywordEach kws X.env)).map (·.2))) (AP X pins σ Q) X.xe s
section
variable {X:Cx}{CX:CXT}{k:Nat}{f C:Addr}{fd:FuncData}{ps ks:List Str}{sp:Sp}{E:XK}{x m:Str}{p pos apos kpos:Pos}{e o:Expr}{es:List Expr}{kws:List Keyword}{te ta:TE}{t tk:TA}{nm:Option Str}
theorem Eu:PK X [] Dq:=λ _ _ _ _ H Q I h=>wpAny_evalAll_nil ⟨[],H,I,.nil,h⟩
theorem Bm(ha:PE X e te)(hr:PK X kws t):PK X (⟨nm,e,kpos⟩ :: kws) (tu te t):=by
 intro pos pins s σ H Q I h
 show wpAny _ _ (evalAll ((do let v ←eval e X.env;standAt pos;pure v)::(backToKw pos (keywordEach kws X.env)).map (·.2))) _ _ s
 refine wpAny_evalAll_cons (Kl (thn (ha pins s σ H _ I h) λ u s1 ⟨x,H1,I1,r1,q1⟩=>Kl (MN (Kv ?_))));exact thn (hr pos pins s1 σ H1 _ I1 q1) λ us s2 ⟨xs,H2,I2,r2,q2⟩=>⟨x::xs,H2,I2,.cons r1 r2,q2⟩
variable {g:List Value->List Value->List Value}{gV:List V->List V->List V}
end
structure ah(N P:List Str)(sc:Scope):Prop where
 kind:sc.kind=.function
 co:sc.isCoroutine=false
 gen:sc.isGenerator=false
 nd:N.Nodup
 pre:N.take P.length=P
 par:∀ x∈P,sc.names.lookup x=some .local\/sc.names.lookup x=some .cell
 nofree:∀ y∈sc.names,y.2 ≠ .free
theorem mP{kindOf:Str->Option NameKind}{x:Str}:∀ {binds:List (Str × Value)}{m:Str->Option Value},(∀ v,(x,v) ∉ binds)->bindL kindOf binds m x=m x
 | [],_,_=>rfl
 | (n,v)::r,m,h=>by
  unfold bindL;rw [mP λ w hw=>h w (mem_cons_of_mem _ hw)];split
  ·have:x ≠ n:=by rintro rfl;exact h v Kp
   simp [this]
  ·rfl
theorem mR{kindOf:Str->Option NameKind}{x:Str}:∀ {binds:List (Str × Value)}{m:Str->Option Value},(∀ v,(x,v) ∉ binds)->bindC kindOf binds m x=m x
 | [],_,_=>rfl
 | (n,v)::r,m,h=>by
  unfold bindC;rw [mR λ w hw=>h w (mem_cons_of_mem _ hw)];split
  ·rfl
  ·have:x ≠ n:=by rintro rfl;exact h v Kp
   simp [this]
theorem mQ{kindOf:Str->Option NameKind}{x:Str}{v:Value}:∀ {P:List Str}{vs:List Value}{i:Nat}{m:Str->Option Value},P.Nodup->P[i]? = some x->vs[i]? = some v->kindOf x=some .local →
  bindL kindOf (P.zip vs) m x=some v
 | [],_,_,_,_,h,_,_=>by simp at h
 | _::_,[],_,_,_,_,h,_=>by simp at h
 | p::P,w::vs,0,m,nd,h1,h2,hk=>by
  simp at h1 h2;subst h1;subst h2
  show bindL kindOf ((p,w)::P.zip vs) m p=_
  unfold bindL;rw [mP λ v hv=>(List.nodup_cons.mp nd).1 (of_mem_zip hv).1,if_pos hk];simp
 | p::P,w::vs,i+1,m,nd,h1,h2,hk=>by
  show bindL kindOf ((p,w)::P.zip vs) m x=_
  unfold bindL;exact mQ (i:=i) (List.nodup_cons.mp nd).2 (by simpa using h1) (by simpa using h2) hk
theorem mS{kindOf:Str->Option NameKind}{x:Str}{v:Value}:∀ {P:List Str}{vs:List Value}{i:Nat}{m:Str->Option Value},P.Nodup->P[i]? = some x->vs[i]? = some v->kindOf x ≠ some .local →
  bindC kindOf (P.zip vs) m x=some v
 | [],_,_,_,_,h,_,_=>by simp at h
 | _::_,[],_,_,_,_,h,_=>by simp at h
 | p::P,w::vs,0,m,nd,h1,h2,hk=>by
  simp at h1 h2;subst h1;subst h2
  show bindC kindOf ((p,w)::P.zip vs) m p=_
  unfold bindC;rw [mR λ v hv=>(List.nodup_cons.mp nd).1 (of_mem_zip hv).1,if_neg hk];simp
 | p::P,w::vs,i+1,m,nd,h1,h2,hk=>by
  show bindC kindOf ((p,w)::P.zip vs) m x=_
  unfold bindC;exact mS (i:=i) (List.nodup_cons.mp nd).2 (by simpa using h1) (by simpa using h2) hk
def start(N:List Str)(vs:List V):St:=vs.map some++List.replicate (N.length - vs.length) none
def zR(CX:CXT)(P:Program)(w:World)(K:W.Frag)(mg:Str->Option Value)(base:Heap)(N:List Str)(qual:Str)(scope:Scope)(f:Addr)(cd:Value)(A:Around)(outer:List Env)(s:Shared)(H:Hp)(E:XK):Cx where
 prog:=P
 w:=w
 K:=K
 mg:=mg
 base:=base
 A:=A.deeper (envOfC qual scope s.heap.objs.size f cd)
 N:=N
 s₀:=s
 H₀:=H
 env:=envOfC qual scope s.heap.objs.size f cd
 outer:=outer
 stack:=envOfC qual scope s.heap.objs.size f cd::outer
 ex:=[]
 calm:=true
 fn:=λ _=>true
 pn:=[]
 xe:=λ e s'=>wpAny (model P w) (A.deeper (envOfC qual scope s.heap.objs.size f cd)) (leaving (envOfC qual scope s.heap.objs.size f cd) e) (λ _ s''=>CX outer H s E e s'') (λ e' s''=>CX outer H s E e' s'') s'
theorem qt{sc:Scope}{n:Nat}{x:Str}(h:sc.names.lookup x=some .cell):∃ c,(cellsFrom n sc.names []).lookup x=some c:=by
 have q:=W.cellsFrom_some sc.names n [] (.inl h);exact Option.isSome_iff_exists.mp q
theorem wR{CX:CXT}{P:Program}{w:World}{K:W.Frag}{mg:Str->Option Value}{base:Heap}{N ps:List Str}{qual:Str}{scope:Scope}{f:Addr}{cd:Value}{A:Around}{outer:List Env}{s s1:Shared}{H:Hp}{E:XK}{us:List Value}{vs:List V}
  (S:ah N ps scope) (hd:A.handled=none) (e0:zU P w K mg base A outer s H) (hl:vs.length=ps.length) (r:aX vs us)
  (x:InCallC s s.heap.objs.size (bindL (envOfC qual scope s.heap.objs.size f cd).kindOf (ps.zip us) λ _=>none) (cellsFrom (s.heap.objs.size+1) scope.names []) (bindC (envOfC qual scope s.heap.objs.size f cd).kindOf (ps.zip us) λ _=>none) s1) :
  Inv (zR CX P w K mg base N qual scope f cd A outer s H E) [] (start N vs) H s1:=by
 have hpl:ps.length<=N.length:=by have:=Lv List.length S.pre;rw [Lm] at this;omega
 obtain⟨h1,tk,rfl,hk⟩:=x.done;have noA:∀ b:Addr,b ∉ (zR CX P w K mg base N qual scope f cd A outer s H E).ex:=λ b z=>absurd (show b∈([]:List Addr) from z) (by simp)
 refine⟨⟨e0.mod,S.kind,rfl,rfl,Kq _,λ y z c h1 h2=>?_,λ y hy=>?_,λ y c _ h=>?_,λ _=>hd,Around.frames_deeper e0.frames,.inr ⟨rfl,rfl⟩,λ b z=>absurd z (noA b),e0.bs,e0.bsz,λ b _ _=>noA b,λ b z=>absurd z (noA b),e0.funs,e0.frf⟩,
  rfl,e0.bare,Un.kept hk,⟨_,x.toInCall.ns,λ i y v h1 h2 h3=>?_⟩,λ y c h=>⟨_,x.cell y c h⟩,e0.hok.fresh (Kq _),λ y c h=>?_,λ p hp=>absurd (show p∈([]:List (Addr × Obj)) from hp) (by simp),e0.hok.kept hk,?_⟩
 ·exact name_of_addr x.apart (LV h1) (LV h2)
 ·have hy:scope.names.lookup y=some .cell\/scope.names.lookup y=some .free:=hy
  rcases hy with hy|hy
  ·exact qt hy
  ·exact absurd rfl (S.nofree _ (LV hy))
 ·exact Mi (x.above y c (LV h))
 ·have hi:i < vs.length:=by
   unfold start at h2
   by_cases hi:i < vs.length
   ·exact hi
   ·rw [KR (by simpa using hi)] at h2;rw [Mw] at h2
    split at h2<;>cases h2
  have ha:vs[i]? = some v:=by
   unfold start at h2;rw [getElem?_append_left (by simpa using hi),getElem?_map] at h2
   cases e:vs[i]? with
   | none=>rw [e] at h2;cases h2
   | some a=>rw [e] at h2;cases h2;rfl
  obtain⟨u,hu,rv⟩:=r.get ha
  have hp:ps[i]? = some y:=by
   rw [←S.pre,List.getElem?_take_of_lt (by omega)];exact h1
  have ndP:ps.Nodup:=by rw [←S.pre];exact S.nd.sublist (List.take_sublist _ _)
  refine⟨u,rv,?_⟩
  rcases S.par y (LM hp) with k|k
  ·exact .inl ⟨k,mQ ndP hp hu k⟩
  ·obtain⟨c,e⟩:=qt (n:=s.heap.objs.size+1) k;refine .inr ⟨.inl k,c,e,?_⟩;have q:=x.cell y c e;rw [mS ndP hp hu (by show scope.names.lookup y ≠ _;rw [k];decide)] at q;exact q
 ·exact e0.hok.fresh (Mi (x.above y c (LV h)))
 ·unfold start
  show _=N.length
  rw [Ku,Kr,List.length_replicate];omega
theorem D8{CX:CXT}{P:Program}{w:World}{K:W.Frag}{mg:Str->Option Value}{base:Heap}{k:Nat}{f:Addr}{name qual:Str}{params:Arguments}{body:List Stmt}{scope:Scope}{dV kV doc pm cdv ct oc:Value}{an od:Option Addr}
  {osl:Array (Option Value)} {N ps:List Str} {sp:Sp} (lk:K.lookup f=some ⟨oc,od,.func (W.fnOf name qual params body scope dV kV doc pm an cdv ct),osl⟩) (hcd:W.codeIn K cdv qual=true) (S:ah N ps scope)
  (len:∀ vs H Q E,sp vs H Q E->vs.length=ps.length)
  (hbody:∀ (A:Around) (outer:List Env) (s:Shared) (H:Hp) (vs:List V) (Q:VK) (E:XK),gM k (A.deeper (envOfC qual scope s.heap.objs.size f cdv))->sp vs H Q E →
   ∃ t,PSs (zR CX P w K mg base N qual scope f cdv A outer s H E) body t/\t { nx:=λ _ H'=>Q .non H',rt:=Q } (start N vs) H) :
  bq P w K mg base CX (k+1) f (W.fnOf name qual params body scope dV kV doc pm an cdv ct) ps sp:=by
 refine⟨len,λ A outer s H args us vs Q E hr e0 hb r hsp=>?_⟩;have hl:=len _ _ _ _ hsp;have KX:K.In s.heap:=e0.mod.kin.keeps λ b o e=>(e0.bs b o e).1;have lim:s.heap.NoLimit:=e0.mod.nolimit.keeps λ b o e=>(e0.bs b o e).1
 have hkind:∀ y∈ps.zip us,scope.names.lookup y.1=some .local\/(scope.names.lookup y.1=some .cell/\((cellsFrom (s.heap.objs.size+1) scope.names []).lookup y.1).isSome=true):=λ ⟨n,v⟩ hy=>by
  rcases S.par n (Mn hy).1 with q|q
  ·exact .inl q
  ·exact .inr ⟨q,W.cellsFrom_some _ _ _ (.inl q)⟩
 refine codeAny_call_function hr.depth (KX _ _ lk) rfl S.co S.gen rfl (W.codeRec_of KX hcd) (hb _ _ _ _ ?_);refine wpAny_newFunctionEnv_cells S.kind hkind λ env he s1 x=>?_;subst he;refine⟨lim.keeps x.toInCall.keep,codeAny_func ?_⟩;obtain⟨t,ht,hq⟩:=hbody A outer s H vs Q E (hr.deeper _) hsp;have I:Inv (zR CX P w K mg base N qual scope f cdv A outer s H E) [] (start N vs) H s1:=wR S hr.hd e0 hl r x;refine MH (ht [] s1 (start N vs) H _ I hq) (λ fl s' hs=>?_) λ e s' hs=>hs
 have fin:∀ {σ':St} {H':Hp} {v:V} {u:Value},Inv (zR CX P w K mg base N qual scope f cdv A outer s H E) [] σ' H' s'->bo v u->Q v H'->CE outer P w H s Q u s':=
  λ {σ' H' v u} J rv q=>⟨v,H',J.os,J.bare,J.base,J.hok,rv,q⟩
 cases fl with
 | ret u=>
  obtain⟨v,σ',H',J,rv,q⟩:=hs;exact fin J rv q
 | next=>
  obtain⟨σ',H',J,q⟩:=hs;exact fin (v:=V.non) (u:=Value.none) J rfl q
 | brk=>
  obtain⟨_,_,_,q⟩:=hs;exact False.elim q
 | cont=>
  obtain⟨_,_,_,q⟩:=hs;exact False.elim q
section
variable {X:Cx}{x:Str}{p pos:Pos}{e:Expr}{es:List Expr}{t:TA}{id T:String}{r:List V->Hp->VK->Prop}
def tCB(r:List V->Hp->VK->Prop)(t:TA):TE:=λ σ H Q=>t σ H λ vs H1=>r vs H1 Q
theorem gR(hc:bN X (.builtin id) r)(hg:Gl X x)(hm:X.mg x=none)(hv:bootBuiltins x=some (.builtin id))(ha:PA X (e::es) t)(hn:x ≠ "__name__":=by decide)(hdb:(x == ("__debug__":Str))=false:=by decide)
  (he:starEach (e::es) X.env=(false,eval e X.env)::starEach es X.env:=by rfl) (hpl:(backTo pos (starEach es X.env)).any (·.1)=false:=by rfl):PE X (.Call (.Name x p) (e::es) [] pos) (tCB r t):=by
 intro pins s σ H Q I h;refine L7 (ic I hg hm hv ?_ hn hdb);exact PyProof.Rows.callWith_builtin1 (thn (ha pos pins s σ H _ I h) λ us s1 ⟨vs,H1,I1,r1,q1⟩=>hc pins s1 σ H1 vs us Q I1 r1 q1) he hpl
theorem vy(hc:bN X (.type T) r)(hg:Gl X x)(hm:X.mg x=none)(hv:bootBuiltins x=some (.type T))(ha:PA X (e::es) t)(hn:x ≠ "__name__":=by decide)(hdb:(x == ("__debug__":Str))=false:=by decide)
  (he:starEach (e::es) X.env=(false,eval e X.env)::starEach es X.env:=by rfl) (hpl:(backTo pos (starEach es X.env)).any (·.1)=false:=by rfl):PE X (.Call (.Name x p) (e::es) [] pos) (tCB r t):=by
 intro pins s σ H Q I h;refine L7 (ic I hg hm hv ?_ hn hdb);exact LF (thn (ha pos pins s σ H _ I h) λ us s1 ⟨vs,H1,I1,r1,q1⟩=>hc pins s1 σ H1 vs us Q I1 r1 q1) he hpl
end
end L2
namespace HT
open PySem PyProof.Rows
section
open PySem.SeqAt
open PySem.AutoSeq1 (wpAny_loadPart')
open PySem.MeetsSeq PySem.MeetsSeq2 PySem.MeetsSeq3
end
section
variable {prog:Program}{w:World}{A:Around}{E:Value->Shared->Prop}{s:Shared}
theorem cat_tup{t b:Addr}{vs ws:List Value}{Q:Value->Shared->Prop}(ht:IsTup s.heap t vs.toArray)(hb:IsTup s.heap b ws.toArray)(hv:vs ≠ [])
  (h1:ws=[]->Q (.ref t) s) (h2:ws ≠ []->Q (.ref s.heap.objs.size) { s with heap:=s.heap.push { cls:=.type "tuple",data:=.seq (vs++ws).toArray } })
  (hsz:vs.length+ws.length<=sizeLine):wpAny (model prog w) A (binaryOp .Add (.ref t) (.ref b)) Q E s:=by
 obtain⟨⟨cls,dd,data,sl⟩,ho,hc,n,hd⟩:=id ht;obtain⟨⟨cls2,dd2,data2,sl2⟩,ho2,hc2,n2,hd2⟩:=id hb;simp only at hc hd hc2 hd2;subst hc hd hc2 hd2;have e:vs.toArray++ws.toArray=(vs++ws).toArray:=by simp
 by_cases hw:ws=[]
 ·exact concat_meets ⟨_,ho,rfl⟩ ⟨_,ho2,rfl⟩ noFill_tuple_add seq_tuple_add MD Mu (Ms _ _)
   (tuple_addW1 t b vs.toArray ws.toArray n n2 dd dd2 sl sl2 (by simpa using hv) (by simp [hw])) ⟨ho,ho2,h1 hw⟩
 ·refine concat_meets ⟨_,ho,rfl⟩ ⟨_,ho2,rfl⟩ noFill_tuple_add seq_tuple_add MD Mu (Ms _ _)
   (tuple_addW2 t b vs.toArray ws.toArray n n2 dd dd2 sl sl2 (by simpa using hv) (by simpa using hw) (by rw [KJ,KJ];exact hsz)) ⟨ho,ho2,?_⟩
  rw [e];exact h2 hw
def sIx(n d:Nat):Option Int->Nat
 | none=>d
 | some v=>if v < 0 then (v+(n:Int)).toNat else min v.toNat n
theorem sIx_none(n d:Nat):sIx n d none=d:=rfl
theorem sIx_nat(n d k:Nat):sIx n d (some (k:Int))=min k n:=by
 show (if (k:Int) < 0 then ((k:Int)+(n:Int)).toNat else min (k:Int).toNat n)=min k n
 rw [Ks (by omega),La]
theorem Ek(n d:Nat)(hd:d<=n)(o:Option Int):sIx n d o<=n:=by
 cases o with
 | none=>exact hd
 | some v=>
  show (if v < 0 then (v+(n:Int)).toNat else min v.toNat n)<=n
  by_cases hv:v < 0
  ·rw [Kx hv];omega
  ·rw [Ks hv];exact Nat.min_le_right _ _
theorem u7(v:Int)(n d:Nat):(if v < 0 then max (v+(n:Int)) 0 else min v (n:Int))=((sIx n d (some v):Nat):Int):=by
 show (if v < 0 then max (v+(n:Int)) 0 else min v (n:Int))=(((if v < 0 then (v+(n:Int)).toNat else min v.toNat n):Nat):Int)
 by_cases hv:v < 0
 ·simp only [Kx hv];omega
 ·simp only [Ks hv];omega
theorem sQ(lo hi:Option Int)(n:Nat):Builtin.Slice.sliceAdjust lo hi 1 (n:Int)=(((sIx n 0 lo:Nat):Int),((sIx n n hi:Nat):Int)):=by
 have h1:¬ ((1:Int) < 0):=by omega
 unfold Builtin.Slice.sliceAdjust;simp only [h1,if_false];refine Prod.ext ?_ ?_
 ·cases lo with
  | none=>rfl
  | some v=>exact u7 v n 0
 ·cases hi with
  | none=>rfl
  | some v=>exact u7 v n n
theorem qY(i j:Nat):Builtin.Slice.slicePlaces (i:Int) (j:Int) 1=j - i:=by
 unfold Builtin.Slice.slicePlaces;have h1:(1:Int) > 0:=by omega
 simp only [h1,M6,Int.ediv_one]
 split<;>omega
theorem jC{v:Value}{o:Option Int}{Q:Option Int->Shared->Prop}(p:IsPart v o)(h:Q o s):wpAny (model prog w) A (Builtin.Slice.slicePartIndex v) Q E s:=by
 cases p with
 | none=>exact slicePart_none h
 | int i t=>exact slicePart_int h
theorem gH{sl:Addr}{vl vu:Value}{lo hi:Option Int}{n:Nat}{Q:Int × Int × Nat->Shared->Prop}(hs:s.heap.IsSliceOf sl vl vu .none)(pl:IsPart vl lo)(pu:IsPart vu hi)
  (h:Q (((sIx n 0 lo:Nat):Int),1,sIx n n hi - sIx n 0 lo) s):wpAny (model prog w) A (Builtin.Slice.sliceApplied (.ref sl) (pure (n:Int))) Q E s:=by
 obtain⟨os,hos,hcs,hds⟩:=id hs;unfold Builtin.Slice.sliceApplied Builtin.Slice.sliceFields;refine wpAny_bind (wpAny_bind (wpAny_field hos hds (x:=vl) rfl (wpAny_bind (wpAny_field hos hds (x:=vu) rfl (wpAny_bind (wpAny_field hos hds (x:=.none) rfl (wpAny_pure ?_)))))));refine wpAny_bind (slicePart_none ?_)
 show wpAny _ _ (if ((1:Int) == 0)=true then _ else _) _ _ s
 rw [Ks (by decide)];refine Kl (jC pl (Kl (jC pu (Kl (Kv ?_)))))
 show wpAny _ _ (match Builtin.Slice.sliceAdjust lo hi 1 (n:Int) with|(lo,hi)=>pure (lo,(1:Int),Builtin.Slice.slicePlaces lo hi 1)) _ _ s
 rw [sQ lo hi n]
 show wpAny _ _ (pure (((sIx n 0 lo:Nat):Int),(1:Int),Builtin.Slice.slicePlaces ((sIx n 0 lo:Nat):Int) ((sIx n n hi:Nat):Int) 1)) _ _ s
 rw [qY];exact Kv h
theorem ya(xs:Array Value)(i k:Nat):((List.range k).filterMap λ (m:Nat)=>xs[((i:Int)+(m:Int) * 1).toNat]?).toArray=((xs.toList.drop i).take k).toArray:=by
 have e:(λ (m:Nat)=>xs[((i:Int)+(m:Int) * 1).toNat]?)=λ m=>xs[i+m]?:=by
  funext m;have:((i:Int)+(m:Int) * 1).toNat=i+m:=by omega
  rw [this]
 rw [e];have:=pick_run xs i k;rw [List.filterMap_map] at this;have e2:((λ x=>xs[x]?) ∘ λ x=>i+x)=λ m=>xs[i+m]?:=rfl;rw [e2] at this;rw [this]
theorem getItem_tuple_cut{t sl:Addr}{items:Array Value}{vl vu:Value}{lo hi:Option Int}{Q:Value->Shared->Prop}(ht:IsTup s.heap t items)(hs:s.heap.IsSliceOf sl vl vu .none)(pl:IsPart vl lo)(pu:IsPart vu hi)
  (hw:¬ (sIx items.size 0 lo=0/\sIx items.size items.size hi=items.size))
  (h:Q (.ref s.heap.objs.size) { s with heap:=s.heap.push { cls:=.type "tuple",data:=.seq ((items.toList.drop (sIx items.size 0 lo)).take (sIx items.size items.size hi - sIx items.size 0 lo)).toArray } })
  (hsz:items.size<=sizeLine):wpAny (model prog w) A (getItem (.ref t) (.ref sl)) Q E s:=by
 have htake:sizeOk (.seq ((items.toList.drop (sIx items.size 0 lo)).take (sIx items.size items.size hi - sIx items.size 0 lo)).toArray):=by
  show ((items.toList.drop (sIx items.size 0 lo)).take (sIx items.size items.size hi - sIx items.size 0 lo)).toArray.size<=sizeLine
  rw [KJ,Lm,Mc,LW];omega
 have hj:sIx items.size items.size hi<=items.size:=Ek _ _ (Nat.le_refl _) hi;obtain⟨os,hos,hcs,hds⟩:=id hs;have hTs:s.TypeIs (.ref sl) "slice":=⟨os,hos,hcs⟩;unfold getItem
 try with_reducible refine Mm ?_
 first|refine Kl (Kv ?_)|skip
 refine Kl (wpAny_sequenceKey ht.typeIs (by decide) ?_)
 refine Kl (LD (name:=Str.ofString "__getitem__") ht.typeIs L6
  (L4 L6 ht.typeIs entry_tuple_getitem ?_ (args_tuple_getitem _ _)))
 show wpAny _ _ (Builtin.Tuple.tupleItemsOf (.ref t) >>= _) _ _ s
 refine Kl (tupleItemsOf_ ht ?_);refine Kl (wpAny_typeOf hTs ?_);rw [Kx (by decide)];refine Kl (gH hs pl pu ?_)
 have hno:¬ ((((sIx items.size 0 lo:Nat):Int) == 0 && (1:Int) == 1 && (sIx items.size items.size hi - sIx items.size 0 lo) == items.size)=true):=by
  intro q;rw [Mb,Mb] at q;have q1:((sIx items.size 0 lo:Nat):Int)=0:=eq_of_beq q.1.1;have q2:sIx items.size items.size hi - sIx items.size 0 lo=items.size:=eq_of_beq q.2;exact hw ⟨by omega,by omega⟩
 show wpAny _ _ (if (((sIx items.size 0 lo:Nat):Int) == 0 && (1:Int) == 1 && (sIx items.size items.size hi - sIx items.size 0 lo) == items.size)=true then _ else _) _ _ s
 rw [Ks hno,ya]
 first
  | exact Kl (m:=Builtin.Tuple.tupleExact _) (Ls (Kv ⟨_,rfl,Kv h⟩) htake)
  | exact Kl (m:=Builtin.Tuple.tupleExact _) (Ls (Kl (Kv (Kv ⟨_,rfl,Kv h⟩))) htake)
  | exact Kl (Kl (m:=Builtin.Tuple.tupleExact _) (Ls (Kv (Kv ⟨_,rfl,Kv h⟩)) htake))
  | exact Kl (Kl (m:=Builtin.Tuple.tupleExact _) (Ls (Kv ⟨_,rfl,Kv h⟩) htake))
end
end HT
namespace L2
open PySem PySem.Spec PyProof.Rows
abbrev TO:=St->Hp->(Option Int->Hp->Prop)->Prop
def PO(X:Cx)(e:Option Expr)(t:TO):Prop:=
 ∀ (pins:List (Addr × Obj)) (s:Shared) (σ:St) (H:Hp) (Q:Option Int->Hp->Prop),Inv X pins σ H s->t σ H Q →
  wpAny (model X.prog X.w) X.A (evalPart e X.env) (λ u s'=>∃ o H',Inv X pins σ H' s'/\IsPart u o/\Q o H') X.xe s
def uG:TO:=λ _ H Q=>Q none H
def DB(t:TE):TO:=λ σ H Q=>t σ H λ x H1=>∃ i,x=.int i/\Q (some i) H1
section
variable {X:Cx}{e:Expr}{te:TE}{lo hi:Option Expr}{tl th:TO}{pos p2:Pos}
theorem fb:PO X none uG:=by
 intro pins s σ H Q I h;rw [evalPart_none];exact Kv ⟨none,H,I,.none,h⟩
theorem eZ(h:PE X e te):PO X (some e) (DB te):=by
 intro pins s σ H Q I hw;rw [evalPart_some];refine thn (h pins s σ H _ I hw) λ u s1 ⟨x,H1,I1,r1,q1⟩=>?_;obtain⟨i,rfl,q⟩:=q1;obtain⟨t,rfl⟩:=r1;exact⟨some i,H1,I1,.int i t,q⟩
def SlR(X:Cx)(r:V->Option Int->Option Int->Hp->VK->Prop):Prop:=
 ∀ (pins:List (Addr × Obj)) (s:Shared) (σ:St) (H:Hp) (x:V) (v vl vu:Value) (lo hi:Option Int) (sl:Addr) (Q:VK),Inv X pins σ H s->bo x v->s.heap.IsSliceOf sl vl vu .none->IsPart vl lo->IsPart vu hi->r x lo hi H Q →
  ∃ T id,typeLookup (.type T) "__getitem__"=pure (some (.builtin id))/\s.TypeIs v T/\wpAny (model X.prog X.w) X.A (getItem v (.ref sl)) (EP X pins σ Q) X.xe s
def tSl(r:V->Option Int->Option Int->Hp->VK->Prop)(te:TE)(tl th:TO):TE:=λ σ H Q=>te σ H λ x H1=>tl σ H1 λ l H2=>th σ H2 λ u H3=>r x l u H3 Q
theorem yc{r:V->Option Int->Option Int->Hp->VK->Prop}(hr:SlR X r)(he:PE X e te)(hl:PO X lo tl)(hu:PO X hi th):PE X (.Subscript e (.Slice lo hi none p2) pos) (tSl r te tl th):=by
 intro pins s σ H Q I h;refine Subscript_ (thn (he pins s σ H _ I h) λ v s1 ⟨x,H1,I1,r1,q1⟩=>?_);refine wpAny_Slice (thn (hl pins s1 σ H1 _ I1 q1) λ vl s2 ⟨l,H2,I2,pl,q2⟩=>thn (hu pins s2 σ H2 _ I2 q2) λ vu s3 ⟨u,H3,I3,pu,q3⟩=>?_);rw [evalPart_none];refine Kv ?_;have I4:Inv X pins σ H3 { s3 with heap:=s3.heap.push { cls:=.type "slice",data:=.fields #[vl,vu,.none] } }:=I3.kept (t':=s3.toks) λ b ob q=>Kn _ q;obtain⟨T,id,hT,ht,hg⟩:=hr pins { s3 with heap:=s3.heap.push { cls:=.type "slice",data:=.fields #[vl,vu,.none] } } σ H3 x v vl vu l u s3.heap.objs.size Q I4 r1 (Heap.IsSliceOf.new ..) pl pu q3
 show wpAny (model X.prog X.w) X.A (subscriptTail e (.Slice lo hi none p2) v (.ref s3.heap.objs.size)) (EP X pins σ Q) X.xe { s3 with heap:=s3.heap.push { cls:=.type "slice",data:=.fields #[vl,vu,.none] } }
 exact tail_any (ops:=[.ref s3.heap.objs.size,v]) ht hT hg (by with_unfolding_all rfl)
def js(xs:List V)(lo hi:Option Int):List V:=(xs.drop (HT.sIx xs.length 0 lo)).take (HT.sIx xs.length xs.length hi - HT.sIx xs.length 0 lo)
theorem iW(xs:List V)(lo hi:Option Int):(js xs lo hi).length<=xs.length:=by
 unfold js;rw [length_take,length_drop];omega
def JX(K:W.Frag):V->Option Int->Option Int->Hp->VK->Prop:=λ x lo hi H Q=>∃ a xs,x=.ref a/\SqT K H a xs /\
 ¬ (HT.sIx xs.length 0 lo=0/\HT.sIx xs.length xs.length hi=xs.length)/\∀ p,H p=none->Q (.ref p) (upd H p (.tup (js xs lo hi)))
theorem Ei:SlR X (JX X.K):=by
 intro pins s σ H x v vl vu lo hi sl Q I rx hs pl pu h;obtain⟨a,xs,rfl,hx,hw,q⟩:=h;cases rx;obtain⟨its,r,ht,hz⟩:=I.tuple hx;have hlen:its.toArray.size=xs.length:=by rw [KJ];exact r.length.symm
 refine⟨"tuple",_,L6.lookup,ht.typeIs,?_⟩;refine HT.getItem_tuple_cut ht hs pl pu (by rw [hlen];exact hw) ?_ (by rw [hlen];exact hz);rw [hlen];refine⟨.ref s.heap.objs.size,_,I.laid (t':=s.toks) (o:=.tup (js xs lo hi)) (λ b ob q=>Kn _ q) (Kq _) ?_,rfl,q _ (I.hok.fresh (Kq _))⟩;exact⟨Le (iW xs lo hi) hz,_,(r.drop (HT.sIx xs.length 0 lo)).take (HT.sIx xs.length xs.length hi - HT.sIx xs.length 0 lo),IsTup.new _ _⟩
def HG(K:W.Frag):R2:=λ x y H Q=>∃ a b xs ys,x=.ref a/\y=.ref b/\SqT K H a xs/\SqT K H b ys/\xs ≠ []/\xs.length+ys.length<=sizeLine /\
 (ys=[]->Q (.ref a) H)/\(ys ≠ []->∀ p,H p=none->Q (.ref p) (upd H p (.tup (xs++ys))))
theorem aX.nil_iff{xs:List V}{us:List Value}(r:aX xs us):us=[] ↔ xs=[]:=by
 cases r with
 | nil=>simp
 | cons _ _=>simp
theorem BE:OpR X (binaryOp .Add) (HG X.K):=by
 intro pins s σ H x y v u Q I rx ry h;obtain⟨a,b,xs,ys,rfl,rfl,ha,hb,hx,hz,q1,q2⟩:=h;cases rx;cases ry;obtain⟨its,r1,p1,_⟩:=I.tuple ha;obtain⟨its2,r2,p2,_⟩:=I.tuple hb;refine HT.cat_tup p1 p2 (λ z=>hx (r1.nil_iff.mp z)) (λ z=>⟨.ref a,H,I,rfl,q1 (r2.nil_iff.mp z)⟩) (λ z=>?_) (by rw [←r1.length,←r2.length];exact hz);refine⟨.ref s.heap.objs.size,_,I.laid (t':=s.toks) (o:=.tup (xs++ys)) (λ b ob q=>Kn _ q) (Kq _) ?_,rfl,q2 (λ w=>z (r2.nil_iff.mpr w)) _ (I.hok.fresh (Kq _))⟩;exact⟨by rw [Ku];exact hz,_,r1.append r2,IsTup.new _ _⟩
end
def ixN(n:Nat)(i:Int):Option Nat:=if 0<=i then (if i < n then some i.toNat else none) else if -(n:Int)<=i then some (i+n).toNat else none
def atI{α:Type}(xs:List α)(i:Int):Option α:=(ixN xs.length i).bind λ j=>xs[j]?
theorem uR{n:Nat}{i:Int}{j:Nat}(h:ixN n i=some j):seqIndex? i n=some j/\j < n/\-(n:Int)<=i/\i < n:=by
 unfold ixN at h
 by_cases h0:0<=i
 ·rw [Kx h0] at h
  by_cases h1:i < n
  ·rw [Kx h1] at h;have e:i.toNat=j:=K2 h;exact⟨by rw [seqIndex_of h0 h1,e],by omega,by omega,h1⟩
  ·rw [Ks h1] at h;cases h
 ·rw [Ks h0] at h
  by_cases h1:-(n:Int)<=i
  ·rw [Kx h1] at h;have e:(i+n).toNat=j:=K2 h;exact⟨by rw [seqIndex_neg (by omega) h1,e],by omega,h1,by omega⟩
  ·rw [Ks h1] at h;cases h
theorem vc{α:Type}{xs:List α}{i:Int}{v:α}(h:atI xs i=some v):∃ j,seqIndex? i xs.length=some j/\xs[j]? = some v/\j < xs.length/\-(xs.length:Int)<=i/\i < xs.length:=by
 unfold atI at h
 cases e:ixN xs.length i with
 | none=>rw [e] at h;cases h
 | some j=>
  rw [e] at h;obtain⟨h1,h2,h3,h4⟩:=uR e;exact⟨j,h1,h,h2,h3,h4⟩
theorem ff{α:Type}{xs:List α}{j:Nat}{v:α}(h:xs[j]? = some v):atI xs (j:Int)=some v:=by
 have hj:j < xs.length:=(Km.mp h).1
 have e:ixN xs.length (j:Int)=some j:=by
  unfold ixN;rw [if_pos (by omega),if_pos (by omega)];simp
 unfold atI;rw [e];exact h
def Dh(b:Expr):Prop:=∀ o i,subscripted b false o i=operate [o,i] (getItem o i)
def IxR(X:Cx)(r:R2):Prop:=
 ∀ (value slice:Expr) (pins:List (Addr × Obj)) (s:Shared) (σ:St) (H:Hp) (x y:V) (v u:Value) (Q:VK),Inv X pins σ H s->bo x v->bo y u->r x y H Q →
  subscripted slice false v u=operate [v,u] (getItem v u)->wpAny (model X.prog X.w) X.A (subscriptTail value slice v u) (EP X pins σ Q) X.xe s
def MtR(X:Cx)(id:String)(r:V->List V->Hp->VK->Prop):Prop:=
 ∀ (pins:List (Addr × Obj)) (s:Shared) (σ:St) (H:Hp) (x:V) (xs:List V) (v:Value) (us:List Value) (Q:VK),Inv X pins σ H s->bo x v->aX xs us->r x xs H Q →
  wpAny (model X.prog X.w) X.A (call (.builtin id) (v::us)) (EP X pins σ Q) X.xe s
section
variable {X:Cx}{a b:Expr}{ta tb:TE}{pos:Pos}
theorem IxR.or{r r':R2}(h:IxR X r)(h':IxR X r'):IxR X (λ x y H Q=>r x y H Q\/r' x y H Q):=by
 intro value slice pins s σ H x y v u Q I rx ry q hs
 rcases q with q|q
 ·exact h value slice pins s σ H x y v u Q I rx ry q hs
 ·exact h' value slice pins s σ H x y v u Q I rx ry q hs
theorem AD{r:R2}(hr:IxR X r)(ha:PE X a ta)(hb:PE X b tb)(hs:Dh b):PE X (.Subscript a b pos) (tOp r ta tb):=by
 intro pins s σ H Q I h;exact Subscript_ (HA ha hb I h λ v u s2 x y H2 I2 rx ry q=>hr a b pins s2 σ H2 x y v u Q I2 rx ry q (hs _ _))
def J1(K:W.Frag):R2:=λ x y H Q=>∃ p xs i v,x=.ref p/\y=.int i/\SqL K H p xs/\atI xs i=some v/\Q v H
def J0(K:W.Frag):R2:=λ x y H Q=>∃ p xs i v,x=.ref p/\y=.int i/\SqT K H p xs/\atI xs i=some v/\Q v H
theorem oH:IxR X (J1 X.K):=by
 intro value slice pins s σ H x y v u Q I rx ry h hs;obtain⟨p,xs,i,z,rfl,rfl,hq,he,q⟩:=h;cases rx;obtain⟨t,rfl⟩:=ry;obtain⟨its,r,pl,hz⟩:=I.list hq;obtain⟨j,h1,h2,h3,h4,h5⟩:=vc he;obtain⟨w,ew,rw'⟩:=r.get h2;have hl:=r.length;have hn:=ma;have fin:EP X pins σ Q w s:=⟨z,H,I,rw',q⟩
 by_cases h0:0<=i
 ·have hj:i.toNat=j:=by
   rw [seqIndex_of h0 h5] at h1;exact K2 h1
  exact item_listR pl.isList h0 (by omega) (by rw [hj];simpa using ew) fin hs
 ·have hj:(i+(its.toArray.size:Int)).toNat=j:=by
   rw [seqIndex_neg (by omega) h4] at h1;rw [KJ,←hl];exact K2 h1
  exact subscriptTail_builtinR (x:=w) pl.isList.typeIs slot_list_getitem.lookup
   (wpAny_getItem_list_neg (Q:=λ r s'=>r=w/\EP X pins σ Q r s') pl.isList (by omega) (by rw [KJ]<;>omega) (by omega) (by rw [hj];simpa using ew) ⟨rfl,fin⟩) hs
theorem Gr:IxR X (J0 X.K):=by
 intro value slice pins s σ H x y v u Q I rx ry h hs;obtain⟨p,xs,i,z,rfl,rfl,hq,he,q⟩:=h;cases rx;obtain⟨t,rfl⟩:=ry;obtain⟨its,r,pl,hz⟩:=I.tuple hq;obtain⟨j,h1,h2,h3,h4,h5⟩:=vc he;obtain⟨w,ew,rw'⟩:=r.get h2;have hl:=r.length;have hn:=ma;have fin:EP X pins σ Q w s:=⟨z,H,I,rw',q⟩
 exact subscriptTail_builtinR (x:=w) pl.typeIs slot_tuple_getitem.lookup
  (getItem_tuple (j:=j) (Q:=λ r s'=>r=w/\EP X pins σ Q r s') pl (by omega) (by omega) (by rw [KJ,←hl];exact h1) (by simpa using ew) ⟨rfl,fin⟩) hs
theorem rq(its:List Value)(n j:Nat)(u:Value):Obj.mapSeq (·.setIfInBounds j u) { cls:=.type "list",data:=.seq its.toArray n }={ cls:=.type "list",data:=.seq (its.set j u).toArray n }:=by
 simp [Obj.mapSeq]
theorem Inv.lst{pins:List (Addr × Obj)}{σ:St}{H:Hp}{s:Shared}{p:Addr}{xs:List V}(I:Inv X pins σ H s)(h:H p=some (.lst xs)) :
  ∃ (its:List Value) (n:Nat),aX xs its/\s.heap.get? p=some { cls:=.type "list",data:=.seq its.toArray n }/\xs.length<=sizeLine:=by
 obtain⟨z,its,n,r,e⟩:=I.hok p _ h;exact⟨its,n,r,e,z⟩
theorem Inv.lstUpd{pins:List (Addr × Obj)}{σ:St}{H:Hp}{s:Shared}{p:Addr}{xs ys:List V}{its its':List Value}{n n':Nat}{f:Obj->Obj}(I:Inv X pins σ H s)(h:H p=some (.lst xs))
  (ho:s.heap.get? p=some { cls:=.type "list",data:=.seq its.toArray n }) (hf:f { cls:=.type "list",data:=.seq its.toArray n }={ cls:=.type "list",data:=.seq its'.toArray n' }) (r:aX ys its') (hz:ys.length<=sizeLine) (t:Nat) :
  Inv X pins σ (upd H p (.lst ys)) { s with heap:=s.heap.update p f,toks:=t }:=by
 have e:(s.heap.update p f).get? p=some { cls:=.type "list",data:=.seq its'.toArray n' }:=by
  rw [Heap.get?_update_self f ho (by rw [hf]<;>rfl),hf]
 refine I.write (x:=p) (e:=p) (by rw [h];trivial) (.inl rfl) (λ b u hb q=>(Heap.get?_update_other _ _ (K6 hb)).trans q) ⟨_,e⟩ ?_;exact⟨hz,its',n',r,e⟩
def DK:V->V->V->Hp->(Hp->Prop)->Prop:=λ o i v H Q=>∃ p xs k j,o=.ref p/\i=.int k/\H p=some (.lst xs)/\ixN xs.length k=some j/\Q (upd H p (.lst (xs.set j v)))
theorem p5:JL X DK:=by
 intro pins s σ H o i v ov iv u Q I ro ri rv h;obtain⟨p,xs,k,j,rfl,rfl,hp,hj,q⟩:=h;cases ro;obtain⟨t,rfl⟩:=ri;obtain⟨its,n,r,ho,hz⟩:=I.lst hp;obtain⟨h1,h2,h3,h4⟩:=uR hj;have hl:=r.length;have hn:=ma
 have I':Inv X pins σ (upd H p (.lst (xs.set j v))) { s with heap:=s.heap.update p (Obj.mapSeq (·.setIfInBounds j u)) }:=
  I.lstUpd hp ho (rq its n j u) (r.set rv j) (by rw [MZ];exact hz) s.toks
 by_cases h0:0<=k
 ·have hk:k.toNat=j:=by
   rw [seqIndex_of h0 h4] at h1;exact K2 h1
  exact W.ki_setAt ho h0 (by omega) (by rw [KJ,←hl];exact h4) (by rw [hk];exact⟨_,I',q⟩)
 ·have hk:(k+(its.toArray.size:Int)).toNat=j:=by
   rw [seqIndex_neg (by omega) h3] at h1;rw [KJ,←hl];exact K2 h1
  exact W.ki_setBack ho (by omega) (by rw [KJ,←hl];exact h3) (by omega) (by rw [hk];exact⟨_,I',q⟩)
theorem ng(lo hi:Option Int)(n:Nat):(sliceBounds lo hi none n).1=((HT.sIx n 0 lo:Nat):Int)/\(sliceBounds lo hi none n).2.1=((HT.sIx n n hi:Nat):Int)/\(sliceBounds lo hi none n).2.2=1:=by
 refine⟨?_,?_,rfl⟩
 ·cases lo with
  | none=>simp [sliceBounds,HT.sIx]
  | some i=>
   simp only [sliceBounds,HT.sIx,Option.getD_none,show (1:Int) > 0 by decide,M6]
   by_cases h:i < 0
   ·simp only [h,M6]<;>omega
   ·simp only [h,if_false]<;>omega
 ·cases hi with
  | none=>simp [sliceBounds,HT.sIx]
  | some i=>
   simp only [sliceBounds,HT.sIx,Option.getD_none,show (1:Int) > 0 by decide,M6]
   by_cases h:i < 0
   ·simp only [h,M6]<;>omega
   ·simp only [h,if_false]<;>omega
theorem lB(its:List Value)(lo hi:Option Int):slicePick its.toArray lo hi none=((its.drop (HT.sIx its.length 0 lo)).take (HT.sIx its.length its.length hi - HT.sIx its.length 0 lo)).toArray:=by
 obtain⟨h1,h2,h3⟩:=ng lo hi its.toArray.size;unfold slicePick;rw [h1,h2,h3]
 simp only [sliceRange_one,pick_run,KJ]<;>rfl
def JY(K:W.Frag):V->Option Int->Option Int->Hp->VK->Prop:=λ x lo hi H Q=>∃ a xs,x=.ref a/\SqL K H a xs/\∀ p,H p=none->Q (.ref p) (upd H p (.lst (js xs lo hi)))
theorem Bf:SlR X (JY X.K):=by
 intro pins s σ H x v vl vu lo hi sl Q I rx hs pl pu h;obtain⟨a,xs,rfl,hx,q⟩:=h;cases rx;obtain⟨its,r,ht,hz⟩:=I.list hx;have hlen:=r.length;refine⟨"list",_,slot_list_getitem.lookup,ht.isList.typeIs,?_⟩;refine wpAny_getItem_list_slice ht.isList hs pl pu .none (by simp) ?_ (by rw [KJ]<;>omega);rw [lB,←hlen];refine⟨.ref s.heap.objs.size,_,I.laid (t':=s.toks) (o:=.lst (js xs lo hi)) (λ b ob q=>Kn _ q) (Kq _) ?_,rfl,q _ (I.hok.fresh (Kq _))⟩;exact⟨Le (iW xs lo hi) hz,_,0,(r.drop (HT.sIx xs.length 0 lo)).take (HT.sIx xs.length xs.length hi - HT.sIx xs.length 0 lo),Kz _ rfl⟩
def fB:V->Bool
 | .non=>true
 | .bl _=>true
 | .int _=>true
 | .str _=>true
 | _=>false
def eqV:V->V->Bool
 | .non,.non=>true
 | .bl a,.bl b=>a == b
 | .bl a,.int b=>(if a then 1 else 0) == b
 | .int a,.bl b=>a == (if b then 1 else 0)
 | .int a,.int b=>a == b
 | .str a,.str b=>a == b
 | _,_=>false
theorem Gw{A:Around}{s:Shared}{y x:V}{u v:Value}(ry:bo y u)(rx:bo x v)(fy:fB y=true)(fx:fB x=true):SeqAt.EqAt A s u v (eqV y x):=by
 cases y with
 | non=>
  cases ry
  cases x with
  | non=>cases rx;exact SeqAt.EqAt.same _
  | bl b=>cases rx;exact SeqAt.EqAt.none_bool b
  | int b=>obtain⟨t,rfl⟩:=rx;exact SeqAt.EqAt.none_int b t
  | str b=>obtain⟨t,rfl⟩:=rx;exact SeqAt.EqAt.none_str b t
  | _=>exact absurd (show false=true from fx) Kw
 | bl a=>
  cases ry
  cases x with
  | non=>cases rx;exact SeqAt.EqAt.bool_none a
  | bl b=>cases rx;exact SeqAt.EqAt.bool_bool a b
  | int b=>obtain⟨t,rfl⟩:=rx;exact SeqAt.EqAt.bool_int a b t
  | str b=>obtain⟨t,rfl⟩:=rx;exact SeqAt.EqAt.bool_str a b t
  | _=>exact absurd (show false=true from fx) Kw
 | int a=>
  obtain⟨t',rfl⟩:=ry
  cases x with
  | non=>cases rx;exact SeqAt.EqAt.int_none a t'
  | bl b=>cases rx;exact SeqAt.EqAt.int_bool a t' b
  | int b=>obtain⟨t,rfl⟩:=rx;exact SeqAt.EqAt.int_int a t' b t
  | str b=>obtain⟨t,rfl⟩:=rx;exact SeqAt.EqAt.int_str a t' b t
  | _=>exact absurd (show false=true from fx) Kw
 | str a=>
  obtain⟨t',rfl⟩:=ry
  cases x with
  | non=>cases rx;exact SeqAt.EqAt.str_none a t'
  | bl b=>cases rx;exact SeqAt.EqAt.str_bool a t' b
  | int b=>obtain⟨t,rfl⟩:=rx;exact SeqAt.EqAt.str_int a t' b t
  | str b=>obtain⟨t,rfl⟩:=rx;exact SeqAt.EqAt.str_str a t' b t
  | _=>exact absurd (show false=true from fx) Kw
 | _=>exact absurd (show false=true from fy) Kw
def eqU(x:V)(u:Value):Bool:=match u with
 | .none=>eqV .non x
 | .bool b=>eqV (.bl b) x
 | .int i _=>eqV (.int i) x
 | .str z _=>eqV (.str z) x
 | _=>false
theorem Aj{x y:V}{u:Value}(r:bo y u)(f:fB y=true):eqU x u=eqV y x:=by
 cases y with
 | non=>cases r;rfl
 | bl b=>cases r;rfl
 | int i=>obtain⟨t,rfl⟩:=r;rfl
 | str z=>obtain⟨t,rfl⟩:=r;rfl
 | _=>exact absurd (show false=true from f) Kw
theorem oP{x:V}:∀ {xs:List V}{us:List Value},aX xs us->xs.all fB=true->us.any (eqU x)=xs.any λ y=>eqV y x
 | _,_,.nil,_=>rfl
 | y::xs,u::us,.cons r t,f=>by
  rw [List.all_cons,Mb] at f;rw [any_cons,any_cons,Aj r f.1,oP t f.2]
theorem k7{A:Around}{s:Shared}{x:V}{v:Value}(rx:bo x v)(fx:fB x=true):∀ {xs:List V}{us:List Value},aX xs us->xs.all fB=true->∀ u∈us,SeqAt.EqAt A s u v (eqU x u)
 | _,_,.nil,_=>λ u hu=>by cases hu
 | y::xs,u::us,.cons r t,f=>λ u' hu=>by
  rw [List.all_cons,Mb] at f
  rcases KS.mp hu with rfl|hu
  ·rw [Aj r f.1];exact Gw r rx f.1 fx
  ·exact k7 rx fx t f.2 u' hu
def inV(x:V)(xs:List V):Bool:=xs.any λ y=>eqV y x
def rIn(K:W.Frag)(neg:Bool):R2:=λ x y H Q=>∃ p xs,y=.ref p/\(SqL K H p xs\/SqT K H p xs)/\fB x=true/\xs.all fB=true/\Q (.bl (if neg then !inV x xs else inV x xs)) H
theorem vF:OpR X (compareOp .In) (rIn X.K false):=by
 intro pins s σ H x y v u Q I rx ry h;obtain⟨p,xs,rfl,hq,fx,fs,q⟩:=h;cases ry
 rcases hq with hq|hq
 ·obtain⟨its,r,pl,hz⟩:=I.list hq;refine SeqAt.in_listAt (eqU x) pl.isList (λ w hw=>k7 rx fx r fs w (by simpa using hw)) ⟨.bl _,H,I,rfl,?_⟩;rw [show its.toArray.any (eqU x)=its.any (eqU x) by simp,oP r fs];exact q
 ·obtain⟨its,r,pl,hz⟩:=I.tuple hq;refine SeqAt.in_tupleAt (eqU x) pl (λ w hw=>k7 rx fx r fs w (by simpa using hw)) ⟨.bl _,H,I,rfl,?_⟩;rw [show its.toArray.any (eqU x)=its.any (eqU x) by simp,oP r fs];exact q
theorem cT:bN X (.builtin "len") (λ xs H Q=>∃ p ys,xs=[.ref p]/\(SqL X.K H p ys\/SqT X.K H p ys)/\Q (.int ys.length) H):=by
 intro pins s σ H xs us Q I r h;obtain⟨p,ys,rfl,hq,q⟩:=h;obtain⟨u,rfl,rx⟩:=sZ r;cases rx;have hn:=ma
 rcases hq with hq|hq
 ·obtain⟨its,r',pl,hz⟩:=I.list hq;have hlen:=r'.length;exact Calls.call_len_list pl.isList (by simp only [KJ]<;>omega) ⟨.int ys.length,H,I.tok _,⟨s.toks+1,by rw [KJ,hlen]⟩,q⟩
 ·obtain⟨its,r',pl,hz⟩:=I.tuple hq;have hlen:=r'.length;exact len_tuple pl (by simp only [KJ]<;>omega) ⟨.int ys.length,H,I.tok _,⟨s.toks+1,by rw [KJ,hlen]⟩,q⟩
theorem nC:bN X (.builtin "len") (λ xs H Q=>∃ z,xs=[.str z]/\z.length<=sizeLine/\Q (.int z.length) H):=by
 intro pins s σ H xs us Q I r h;obtain⟨z,rfl,hz,q⟩:=h;obtain⟨u,rfl,t,rfl⟩:=sZ r;have hn:=ma;exact len_str (by omega) ⟨.int z.length,H,I.tok _,⟨_,rfl⟩,q⟩
theorem bN.or{f:Value}{r r':List V->Hp->VK->Prop}(h:bN X f r)(h':bN X f r'):bN X f (λ xs H Q=>r xs H Q\/r' xs H Q):=by
 intro pins s σ H xs us Q I rs q
 rcases q with q|q
 ·exact h pins s σ H xs us Q I rs q
 ·exact h' pins s σ H xs us Q I rs q
theorem nz:bN X (.type "list") (λ xs H Q=>∃ p ys,xs=[.ref p]/\(SqL X.K H p ys\/SqT X.K H p ys)/\∀ l,H l=none->Q (.ref l) (upd H l (.lst ys))):=by
 intro pins s σ H xs us Q I r h;obtain⟨p,ys,rfl,hq,q⟩:=h;obtain⟨u,rfl,rx⟩:=sZ r;cases rx
 have fin:∀ (its:List Value),aX ys its->ys.length<=sizeLine->∀ (h':Heap) (c':Nat),(∀ b o',s.heap.get? b=some o'->h'.get? b=some o') →
   h'.get? s.heap.objs.size=some { cls:=.type "list",dict:=none,data:=.seq its.toArray c',slots:=#[] }->EP X pins σ Q (.ref s.heap.objs.size) { s with heap:=h' }:=λ its r' hz h' c' kp e=>
  ⟨.ref s.heap.objs.size,_,I.laid (t':=s.toks) kp (Kq _) (show b5 X.prog X.w _ h' _ (.lst ys) from ⟨hz,its,c',r',e⟩),rfl,q _ (I.hok.fresh (Kq _))⟩
 rcases hq with hq|hq
 ·obtain⟨its,r',pl,hz⟩:=I.list hq;have hlen:=r'.length;obtain⟨o,ho,hc,n,hd⟩:=pl.isList;exact call_list_seq p (.inl rfl) ho hc hd (λ h' c' kp e=>fin its r' hz h' c' kp e) (by simp only [KJ]<;>omega)
 ·obtain⟨its,r',pl,hz⟩:=I.tuple hq;have hlen:=r'.length;obtain⟨o,ho,hc,n,hd⟩:=pl;exact call_list_seq p (.inr rfl) ho hc hd (λ h' c' kp e=>fin its r' hz h' c' kp e) (by simp only [KJ]<;>omega)
theorem lP:bN X (.type "tuple") (λ xs H Q=>∃ p ys,xs=[.ref p]/\((SqL X.K H p ys/\∀ l,H l=none->Q (.ref l) (upd H l (.tup ys)))\/(SqT X.K H p ys/\Q (.ref p) H))):=by
 intro pins s σ H xs us Q I r h;obtain⟨p,ys,rfl,h⟩:=h;obtain⟨u,rfl,rx⟩:=sZ r;cases rx
 rcases h with ⟨hq,q⟩|⟨hq,q⟩
 ·obtain⟨its,r',pl,hz⟩:=I.list hq;have hlen:=r'.length;refine call_tuple_list pl.isList (λ h' kp=>?_) (by simp only [KJ]<;>omega);have I1:Inv X pins σ H { s with heap:=h' }:=I.kept (t':=s.toks) kp
  have I2:Inv X pins σ (upd H h'.objs.size (.tup ys)) { s with heap:=h'.push { cls:=.type "tuple",data:=.seq its.toArray } }:=
   I1.laid (t':=s.toks) (λ b o e=>Kn _ e) (Kq _) (show b5 X.prog X.w _ _ _ (.tup ys) from ⟨hz,its,r',IsTup.new _ _⟩)
  exact⟨.ref h'.objs.size,_,I2,rfl,q _ (I1.hok.fresh (Kq _))⟩
 ·obtain⟨its,r',pl,hz⟩:=I.tuple hq;exact call_tuple_same pl ⟨.ref p,H,I,rfl,q⟩
def tyV(K:W.Frag)(T:String)(x:V)(H:Hp):Prop:=match x with
 | .str _=>T = "str"
 | .int _=>T = "int"
 | .ref p=>(T = "list" /\ ∃ xs,SqL K H p xs)\/(T = "tuple" /\ ∃ o,K.lookup p=some o/\o.cls=.type "tuple" /\ o.dict=none) \/
   (T = "dict" /\ ((∃ kvs,H p=some (.dK kvs))\/∃ kvs,H p=some (.dT kvs)))\/(T = "set" /\ ∃ S n,H p=some (.set S n))
 | _=>False
theorem zW{pins:List (Addr × Obj)}{σ:St}{H:Hp}{s:Shared}{T:String}{x:V}{v:Value}(I:Inv X pins σ H s)(r:bo x v)(ty:tyV X.K T x H) :
  s.TypeIs v T/\∀ a,v=.ref a->∃ ob,s.heap.get? a=some ob/\ob.dict=none:=by
 cases x with
 | str z=>
  obtain⟨t,rfl⟩:=r;cases (show T = "str" from ty);exact⟨typeIs_str s z t,λ _ e=>nomatch e⟩
 | int i=>
  obtain⟨t,rfl⟩:=r;cases (show T = "int" from ty);exact⟨typeIs_int s i t,λ _ e=>nomatch e⟩
 | ref p=>
  cases r
  rcases ty with ⟨rfl,xs,hq⟩|⟨rfl,o,hk,hc,hd⟩|⟨rfl,hk⟩|⟨rfl,S,n,hk⟩
  ·obtain⟨its,_,pl,_⟩:=I.list hq;refine⟨pl.isList.typeIs,λ a e=>?_⟩;cases e;obtain⟨o,n,e,c,hd,_⟩:=pl;exact⟨o,e,hd⟩
  ·refine⟨⟨o,I.kIn p o hk,hc⟩,λ a e=>?_⟩;cases e;exact⟨o,I.kIn _ o hk,hd⟩
  ·have z:∃ o,s.heap.get? p=some o/\o.ExactDict:=by
    rcases hk with ⟨kvs,hk⟩|⟨kvs,hk⟩
    ·obtain⟨_,_,_,_,o,_,_,e,ex,_⟩:=I.hok p _ hk;exact⟨o,e,ex⟩
    ·obtain⟨_,_,_,_,o,_,_,e,ex,_⟩:=I.hok p _ hk;exact⟨o,e,ex⟩
   obtain⟨o,e,ex⟩:=z;refine⟨⟨o,e,ex.1⟩,λ a e2=>?_⟩;cases e2;exact⟨o,e,ex.2.1⟩
  ·obtain⟨o,_,_,_,e,ex,_⟩:=I.hok p _ hk;refine⟨⟨o,e,ex.1⟩,λ a e2=>?_⟩;cases e2;exact⟨o,e,ex.2.1⟩
 | _=>exact False.elim ty
def Ja(K:W.Frag)(T:String)(r:V->List V->Hp->VK->Prop)(to:TE):TE:=λ σ H Q=>to σ H λ x H1=>tyV K T x H1/\r x [] H1 Q
def tBM(K:W.Frag)(T:String)(r:V->List V->Hp->VK->Prop)(to:TE)(t:TA):TE:=λ σ H Q=>to σ H λ x H1=>tyV K T x H1/\t σ H1 λ xs H2=>r x xs H2 Q
variable {o e:Expr}{es:List Expr}{to:TE}{t:TA}{name:Str}{apos cpos:Pos}{T id:String}{r:V->List V->Hp->VK->Prop}
theorem pK(pa:PlainAttrs T)(slot:Slot T name id)(hty:typeOf (.builtin id)=pure (.type "method_descriptor"))(hm:MtR X id r)(ho:PE X o to)
  (hbase:attributeBase o name X.env (eval o X.env)=eval o X.env:=by rfl) (hline:(apos.endLine == cpos.line)=true:=by rfl):PE X (.Call (.Attribute o name apos) [] [] cpos) (Ja X.K T r to):=by
 intro pins s σ H Q I h;refine wpAny_Call_method0_late hbase hline (thn (ho pins s σ H _ I h) λ v s1 ⟨x,H1,I1,r1,ty,q1⟩=>?_);obtain⟨h1,h2⟩:=zW I1 r1 ty;exact⟨T,id,pa,slot,hty,h1,h2,MX rfl (PySem.evalArgs_none (hm pins s1 σ H1 x [] v [] Q I1 r1 .nil q1))⟩
theorem HJ(pa:PlainAttrs T)(slot:Slot T name id)(hty:typeOf (.builtin id)=pure (.type "method_descriptor"))(hm:MtR X id r)(ho:PE X o to)(ha:PA X (e::es) t)
  (hbase:attributeBase o name X.env (eval o X.env)=eval o X.env:=by rfl)
  (hfew:((backTo cpos (starEach (e::es) X.env)).all (λ x=>!x.1) && (backToKw cpos (keywordEach [] X.env)).all (λ x=>x.1.isSome)
   && decide ((e::es).length+([]:List Keyword).length+(if ([]:List Keyword).isEmpty then 0 else 1) < 30))=true:=by rfl)
  (hline:(apos.endLine == cpos.line)=true:=by rfl) (hs:starEach (e::es) X.env=(false,eval e X.env)::starEach es X.env:=by rfl) (hplain:(backTo cpos (starEach es X.env)).any (·.1)=false:=by rfl) :
  PE X (.Call (.Attribute o name apos) (e::es) [] cpos) (tBM X.K T r to t):=by
 intro pins s σ H Q I h;refine wpAny_Call_method_late hbase hfew hline rfl (thn (ho pins s σ H _ I h) λ v s1 ⟨x,H1,I1,r1,ty,q1⟩=>?_);obtain⟨h1,h2⟩:=zW I1 r1 ty;refine⟨T,id,pa,slot,hty,h1,h2,?_⟩;have hA:=ha cpos pins s1 σ H1 _ I1 q1;rw [hs] at hA ⊢;refine MX (by show (false || (backTo cpos (starEach es X.env)).any (·.1))=false;rw [hplain]<;>rfl) (Calls.evalArgs_plain ?_);exact thn hA λ us s2 ⟨vs,H2,I2,r2,q2⟩=>hm pins s2 σ H2 x vs v us Q I2 r1 r2 q2
end
def MtM(X:Cx)(id:String)(r:V->List V->Hp->VK->Prop):Prop:=
 ∀ (pins:List (Addr × Obj)) (s:Shared) (σ:St) (H:Hp) (x:V) (xs:List V) (v:Value) (us:List Value) (Q:VK),Inv X pins σ H s->bo x v->aX xs us->r x xs H Q →
  wpAny (model X.prog X.w) X.A (call (.builtin id) (v::us)) (EP X pins σ Q) X.xe s
theorem aX.one:∀ {x:V}{us:List Value},aX [x] us->∃ u,us=[u]/\bo x u
 | _,_,.cons r .nil=>⟨_,rfl,r⟩
theorem aX.zero:∀ {us:List Value},aX [] us->us=[]
 | _,.nil=>rfl
theorem aX.dropLast{xs:List V}{us:List Value}(h:aX xs us):aX xs.dropLast us.dropLast:=by
 induction h with
 | nil=>exact .nil
 | cons r t ih=>
  cases t with
  | nil=>exact .nil
  | cons q t'=>exact .cons r ih
theorem aX.reverse{xs:List V}{us:List Value}(h:aX xs us):aX xs.reverse us.reverse:=by
 induction h with
 | nil=>exact .nil
 | cons r t ih=>rw [M9,M9];exact aX.append ih (.cons r .nil)
theorem sx{α:Type}(l:List α):l.eraseIdx (l.length - 1)=l.dropLast:=by
 induction l with
 | nil=>rfl
 | cons a r ih=>
  cases r with
  | nil=>rfl
  | cons b r=>
   have e:(a::b::r).length - 1=((b::r).length - 1)+1:=by
    have h1:(a::b::r).length=r.length+2:=rfl;have h2:(b::r).length=r.length+1:=rfl;omega
   rw [e,List.eraseIdx_cons_succ,ih]
   all_goals rfl
section
variable {X:Cx}{pins:List (Addr × Obj)}{σ:St}{H:Hp}{s:Shared}{l b:Addr}{xs ys zs:List V}
theorem Inv.lset{its its':List Value}{n:Nat}{f:Array Value->Array Value}{t':Nat}(I:Inv X pins σ H s)(hH:H l=some (.lst xs))
  (e:s.heap.get? l=some { cls:=.type "list",data:=.seq its.toArray n }) (hf:f its.toArray=its'.toArray) (hv:aX ys its') (hz:ys.length<=sizeLine) :
  Inv X pins σ (upd H l (.lst ys)) { s with heap:=s.heap.update l (Obj.mapSeq f),toks:=t' }:=by
 have q:=PySem.IsL.update e f;rw [hf] at q;refine I.write (x:=l) (e:=l) (by rw [hH];exact trivial) (.inl rfl) (λ b' u hb hu=>(Heap.get?_update_other s.heap (Obj.mapSeq f) (K6 hb)).trans hu) ⟨_,q⟩ ?_;exact⟨hz,its',_,hv,q⟩
theorem Inv.lnew{its:List Value}{t':Nat}(I:Inv X pins σ H s)(hv:aX ys its)(hz:ys.length<=sizeLine) :
  Inv X pins σ (upd H s.heap.objs.size (.lst ys)) { s with heap:=s.heap.push { cls:=.type "list",data:=.seq its.toArray },toks:=t' }:=
 I.laid (λ _ _ q=>Kn _ q) (Kq _) ⟨hz,its,0,hv,Kz _ rfl⟩
theorem Inv.fresh(I:Inv X pins σ H s):H s.heap.objs.size=none:=I.hok.fresh (Kq _)
theorem Inv.lstM(I:Inv X pins σ H s)(hH:H l=some (.lst xs)):xs.length<=sizeLine/\∃ (its:List Value) (n:Nat),aX xs its/\xs.length=its.length/\s.heap.get? l=some { cls:=.type "list",data:=.seq its.toArray n }:=by
 obtain⟨z,its,n,r,e⟩:=I.hok l _ hH;exact⟨z,its,n,r,r.length,e⟩
theorem ym{n:Nat}(h:n<=sizeLine):Builtin.List.listTooLong n=false:=by
 unfold Builtin.List.listTooLong;exact decide_eq_false (by omega)
end
section
variable {X:Cx}
def uJ:V->List V->Hp->VK->Prop:=λ x vs H Q=>∃ l xs y,x=.ref l/\vs=[y]/\H l=some (.lst xs)/\xs.length < sizeLine/\Q .non (upd H l (.lst (xs++[y])))
theorem fK:MtM X "list.append" uJ:=by
 intro pins s σ H x vs v us Q I rx rv h;obtain⟨l,xs,y,rfl,rfl,hH,hz,q⟩:=h;cases rx;obtain⟨u,rfl,ru⟩:=rv.one;obtain⟨z,its,n,r,hl,e⟩:=I.lstM hH;refine call_meets F.slot_list_append ⟨_,e,rfl⟩ F.entry_list_append (F.args_list_append_2 _ _) (PySem.list_append l its.toArray n u (by rw [KJ];omega)) ⟨e,?_⟩;refine⟨.non,_,I.lset (its':=its++[u]) hH e (by simp) (r.append (.cons ru .nil)) ?_,rfl,q⟩;rw [Ku,KW];omega
def uI:V->List V->Hp->VK->Prop:=λ x vs H Q=>∃ l b xs zs,x=.ref l/\vs=[.ref b]/\H l=some (.lst xs)/\H b=some (.lst zs)/\xs.length+zs.length<=sizeLine/\Q .non (upd H l (.lst (xs++zs)))
theorem mz:MtM X "list.extend" uI:=by
 intro pins s σ H x vs v us Q I rx rv h;obtain⟨l,b,xs,zs,rfl,rfl,hH,hB,hz,q⟩:=h;cases rx;obtain⟨u,rfl,ru⟩:=rv.one;cases ru;obtain⟨z,its,n,r,hl,e⟩:=I.lstM hH;obtain⟨z2,its2,n2,r2,hl2,e2⟩:=I.lstM hB;have hsz:its.toArray.size+its2.toArray.size<=sizeLine:=by rw [KJ,KJ];omega
 have hlong:¬ (!its.toArray.isEmpty && Builtin.List.listTooLong (its.toArray.size+its2.toArray.size))=true:=by
  rw [ym hsz,MS];exact Kw
 refine call_meets F.slot_list_extend ⟨_,e,rfl⟩ F.entry_list_extend (F.args_list_extend_2 _ _)
  (AutoSeq1.list_extend_list_list_0 l its.toArray n b its2.toArray n2 hlong (by rw [KJ];omega) (by omega)) ⟨e,e2,?_⟩
 refine⟨.non,_,I.lset (its':=its++its2) hH e (by simp) (r.append r2) ?_,rfl,q⟩;rw [Ku];omega
def Jc:V->List V->Hp->VK->Prop:=λ x vs H Q=>∃ l xs y,x=.ref l/\vs=[]/\H l=some (.lst xs)/\xs[xs.length - 1]? = some y/\Q y (upd H l (.lst xs.dropLast))
theorem uq:MtM X "list.pop" Jc:=by
 intro pins s σ H x vs v us Q I rx rv h;obtain⟨l,xs,y,rfl,rfl,hH,hy,q⟩:=h;cases rx;have hus:=rv.zero;subst hus;obtain⟨z,its,n,r,hl,e⟩:=I.lstM hH;obtain⟨u,hu,ru⟩:=r.get hy
 have hy':its.toArray[its.toArray.size - 1]? = some u:=by
  show its.toArray[its.length - 1]? = some u
  rw [←Array.getElem?_toList,←hl];exact hu
 refine call_meets F.slot_list_pop ⟨_,e,rfl⟩ F.entry_list_pop (F.args_list_pop_1 _) (MeetsSeq.list_pop_last l its.toArray n u hy' (by rw [KJ];omega)) ⟨e,?_⟩;refine⟨y,_,I.lset (its':=its.dropLast) hH e ?_ r.dropLast ?_,ru,q⟩
 ·show its.toArray.eraseIdxIfInBounds (its.toArray.size - 1)=its.dropLast.toArray
  rw [KJ,List.eraseIdxIfInBounds_toArray,sx]
 ·rw [List.length_dropLast];omega
def p8:V->List V->Hp->VK->Prop:=λ x vs H Q=>∃ l xs,x=.ref l/\vs=[]/\H l=some (.lst xs)/\Q .non (upd H l (.lst xs.reverse))
theorem rl:MtM X "list.reverse" p8:=by
 intro pins s σ H x vs v us Q I rx rv h;obtain⟨l,xs,rfl,rfl,hH,q⟩:=h;cases rx;have hus:=rv.zero;subst hus;obtain⟨z,its,n,r,hl,e⟩:=I.lstM hH;refine call_meets F.slot_list_reverse ⟨_,e,rfl⟩ F.entry_list_reverse (F.args_list_reverse_1 _) (AutoSeq1.list_reverse_list_0 l its.toArray n (by rw [KJ];omega)) ⟨e,?_⟩;refine⟨.non,_,I.lset (its':=its.reverse) hH e (by simp) r.reverse ?_,rfl,q⟩;rw [LY];omega
def Jd:R2:=λ x y H Q=>∃ l b xs zs,x=.ref l/\y=.ref b/\H l=some (.lst xs)/\H b=some (.lst zs)/\xs.length+zs.length<=sizeLine/\∀ p,H p=none->Q (.ref p) (upd H p (.lst (xs++zs)))
theorem EI:OpR X (binaryOp .Add) Jd:=by
 intro pins s σ H x y v u Q I rx ry h;obtain⟨l,b,xs,zs,rfl,rfl,hH,hB,hz,q⟩:=h;cases rx;cases ry;obtain⟨z,its,n,r,hl,e⟩:=I.lstM hH;obtain⟨z2,its2,n2,r2,hl2,e2⟩:=I.lstM hB;refine PySem.P.add_list e e2 ?_ (by rw [KJ,KJ];omega);have ea:its.toArray++its2.toArray=(its++its2).toArray:=by simp
 rw [ea];exact⟨.ref _,_,I.lnew (t':=s.toks) (r.append r2) (by rw [Ku];omega),rfl,q _ I.fresh⟩
end
section
variable {prog:Program}{w:World}{A:Around}{E:Value->Shared->Prop}{s:Shared}
end
section
variable {X:Cx}
end
end L2
namespace Att
open PySem PySem.W PySem.Calls PyProof.Rows
theorem i9{P:Params}{h:Heap}:∀ (ns:List Int) (vs:List Value),WellAll P h vs (ns.map WData.int)->IntsAre vs ns:=by
 intro ns
 induction ns with
 | nil=>
  intro vs w;rw [map_nil] at w;cases w;exact .nil
 | cons n ns ih=>
  intro vs w;rw [KZ] at w
  cases w with
  | cons a b=>
   cases a;exact .cons _ _ (ih _ b)
theorem vp{l:OpenLaw}{n:Nat}(hn:l.most=some n){P:Params}{h:Heap}{args:List WData}{vals:List Value}
  (hpre:l.row.toRowW.claim.pre args=true) (hwl:WellAll P h vals args) :
  ∃ a vs ns,vals=[Value.ref a]/\args=[WData.list (ns.map WData.int)]/\h.get? a=some { cls:=.type "list",data:=.seq vs.toArray }/\IntsAre vs ns/\ns.length<=n:=by
 have hsh:WShape.hasAll [] args [.list .int]=true:=(pre_splitW hpre).1;have hc:l.pre.holds [] { args:=args }=true:=(pre_splitW hpre).2;obtain⟨d,r,rfl,h1,h2⟩:=hasAllW_cons hsh;obtain rfl:=hasAllW_nil h2;obtain⟨xs,rfl,h3⟩:=hasW_list h1;obtain⟨ns,rfl⟩:=items_int h3
 have hlen:ns.length<=n:=by
  unfold OpenLaw.pre at hc
  have h4:(WTm.not (.lt (.lit (.int (n:Int))) (.len (.arg 0)))).holds [] { args:=[.list (ns.map .int)] }=true:=by
   have h4:=(holds_andW hc).1;rw [hn] at h4;exact h4
  have h5:=condW_of h4 (w_not (w_lt w_lit (w_len_list (w_arg rfl))));rw [Kr] at h5;refine Nf λ q=>?_;have q':(n:Int) < ((ns.length:Nat):Int):=by omega
  first
   | (rw [KN q'] at h5;exact absurd h5 (by decide))
   | (simp at h5;omega)
 cases hwl with
 | cons w1 w2=>
  cases w2
  cases w1 with
  | list ho hall=>exact⟨_,_,ns,rfl,rfl,ho,i9 ns _ hall,hlen⟩
theorem vt(l:OpenLaw)(args:List WData):l.row.toRowW.claim.post args (.bool true) args=true:=
 postW_of (r:=l.row.toRowW) (X:=(true == true))
  (show WShape.has [] (.bool true) .bool=true by first|rfl|decide|simp [WShape.has,WShape.arms,WShape.armsAll])
  (show (WTm.eq .res (.lit (.bool true))).value [] { args:=args,res:=some (.bool true),after:=args }=some (.bool (true == true)) from w_eq_bool (w_res rfl) w_lit) rfl
theorem attach_call{l:OpenLaw}{n:Nat}{q:Program}{loose:List Str}{XP:(Str->Option Value)->Heap->Prop}{YP:World->Heap->Prop}{d:DefRec}
  (hn:l.most=some n) (hdf:d.params.defaults=[])
  (call:∀ (w:World) (s₀ s₁:Shared) (mg mb:Str->Option Value) (fa:Addr) (o:Obj) (pm cd doc:Value) (a:Addr) (vs:List Value) (ns:List Int),
   Ground q loose [] XP w s₀ mg mb s₁.heap->YP w s₁.heap →
   s₁.heap.get? fa=some o->o.data=.func (docDef d.name d.params d.body d.scope pm cd doc)->s₁.heap.CodeRec cd d.name->mg d.name=some (.ref fa) →
   s₁.heap.get? a=some { cls:=.type "list",data:=.seq vs.toArray }->IntsAre vs ns->ns.length<=n->s₁.gens=#[] →
   codeAny (model l.prog w) callerA (.call (.ref fa) ⟨[.ref a],[]⟩) (λ r s'=>r=.ok (.ret (.bool true))/\OldK s₁.heap s'.heap/\s'.os=s₁.os/\AllBare s'.gens) s₁) :
  WalkO q loose XP YP l.row.toRowW d [] (λ f vs=>PySem.call f vs):=by
 intro w s₀ s₁ mg mb G Y fa o pm cd doc dV kV ho hd hcd hD hmg hg args vals as hpre hlay hrd hwl hlo;obtain rfl:dV=.none:=Dflts.none hD hdf;obtain rfl:kV=.none:=Dflts.noKw hD;obtain⟨a,vs,ns,rfl,rfl,hobj,hints,hlen⟩:=vp hn hpre hwl;refine enter_call (Mz (call w s₀ s₁ mg mb fa o pm cd doc a vs ns G Y ho (fd_plain hd) hcd hmg hobj hints hlen hg) λ r s' hq=>?_);obtain⟨rfl,h2,h3,h4⟩:=hq;exact⟨.inl ⟨.bool true,.bool true,[],rfl,λ _=>rfl,.bool true,vt l _,λ _=>⟨List.Pairwise.nil,λ _ hm=>(nomatch hm)⟩⟩,h2,h3,h4⟩
section
variable {prog:Program}{w:World}{A:Around}{E:Value->Shared->Prop}{s:Shared}{K:Frag}
def JO(h:Heap)(L d:Addr):List (Addr × Obj):=(List.range h.objs.size).filterMap λ a=>if a=L\/a=d then none else (h.get? a).map λ o=>(a,o)
end
end Att
namespace L2
open PySem PySem.Spec PyProof.Rows
theorem mh:∀ {vs:List Value}{ns:List Int},IntsAre vs ns->aX (ns.map V.int) vs
 | _,_,.nil=>.nil
 | _,_,.cons n t h=>.cons ⟨t,rfl⟩ (mh h)
def HB(H:Hp):Prop:=∀ b,H b=none\/∃ o xs,H b=some (.frz o (.lst xs))
theorem yE{P:Program}{w:World}{K:W.Frag}{mg mb:Str->Option Value}{CX:CXT}{k:Nat}{fa a:Addr}{fd:FuncData}{x:Str}{sp:Sp}{s₁:Shared}{vs:List Value}{ns:List Int}
  (KX:K.In s₁.heap) (hns:s₁.heap.Ns mainGlobals mg) (hb:s₁.heap.Ns builtinsNs mb) (hbb:∀ x:Str,x ≠ "__name__" → mb x=bootBuiltins x) (hlim:s₁.heap.NoLimit) (hg:s₁.gens=#[])
  (ha:s₁.heap.get? a=some { cls:=.type "list",data:=.seq vs.toArray }) (hi:IntsAre vs ns) (hl:ns.length<=sizeLine) (hr:gM k callerA)
  (F:∀ base:Heap,K.In base->base.Ns mainGlobals mg->bq P w K mg base CX k fa fd [x] sp) (hbind:∀ (s:Shared) (u:Value),BindsTo s fd ⟨[u],[]⟩ [(x,u)])
  (hsp:∀ H:Hp,HB H->SqL K H a (ns.map V.int)->sp [.ref a] H (λ v _=>v=.bl true) λ _ _ _=>False)
  (hCX:∀ H e s',CX [] H s₁ (λ _ _ _=>False) e s'->False) :
  codeAny (model P w) callerA (.call (.ref fa) ⟨[.ref a],[]⟩) (λ r s'=>r=.ok (.ret (.bool true))/\OldK s₁.heap s'.heap/\s'.os=s₁.os/\AllBare s'.gens) s₁:=by
 have rv:=mh hi;have lenV:=hi.length
 have core:∀ H:Hp,HB H->SqL K H a (ns.map V.int)->HOk P w H s₁.heap->(∀ b,H b ≠ none->b=a)->(H a ≠ none->K.lookup a=none) →
   codeAny (model P w) callerA (.call (.ref fa) ⟨[.ref a],[]⟩) (λ r s'=>r=.ok (.ret (.bool true))/\OldK s₁.heap s'.heap/\s'.os=s₁.os/\AllBare s'.gens) s₁:=by
  intro H hO hS hok hA hK;have base_of:∀ {b:Addr} {o:Obj},s₁.heap.get? b=some o->H b=none->(xy s₁.heap H).get? b=some o:=λ e n=>y9 e n
  have noA:∀ {b:Addr} {o:Obj} {es:Array DictEntry} {ep:Nat},s₁.heap.get? b=some o->o.data=.dict es ep->H b=none:=λ {b o es ep} e d=>by
   cases q:H b with
   | none=>rfl
   | some u=>
    have e':b=a:=hA b (by rw [q];simp);subst e';rw [ha] at e;cases e;have d':Data.seq vs.toArray _=Data.dict es ep:=d;cases d'
  have nsK:∀ {b:Addr} {m:Str->Option Value},s₁.heap.Ns b m->(xy s₁.heap H).Ns b m:=λ {b m} ⟨o,es,ep,e,d,r⟩=>⟨o,es,ep,base_of e (noA e d),d,r⟩
  have hKb:K.In (xy s₁.heap H):=λ b o e=>base_of (KX b o e) (by
   cases q:H b with
   | none=>rfl
   | some u=>
    have e':b=a:=hA b (by rw [q];simp);subst e';rw [hK (by rw [q];simp)] at e;cases e)
  have hM:Mod K mg (xy s₁.heap H):=⟨hKb,nsK hns,⟨mb,nsK hb,hbb⟩,let ⟨mc,h1,h2⟩:=hlim;⟨mc,nsK h1,h2⟩⟩;have e0:zU P w K mg (xy s₁.heap H) callerA [] s₁ H:=⟨rfl,hM,λ b o e=>BF e,Nat.le_of_eq (wU _ _),trivial,λ b hb=>absurd (show b∈([]:List Addr) from hb) (by simp),hok,.of_eq hg⟩;refine Mz ((F _ hKb (nsK hns)).run callerA [] s₁ H ⟨[.ref a],[]⟩ [.ref a] [.ref a] _ _ hr e0 (hbind s₁ (.ref a)) (.cons rfl .nil) (hsp H hO hS)) λ r s' h=>?_
  cases r with
  | error e=>exact(hCX H e s' h).elim
  | ok fl=>
   cases fl with
   | next=>exact False.elim h
   | brk=>exact False.elim h
   | cont=>exact False.elim h
   | ret u=>
    obtain⟨v,H',os,bare,un,hok',r',q⟩:=h;have q':v=.bl true:=q;subst q';obtain rfl:u=Value.bool true:=r';refine⟨rfl,OldK.of_keep λ b o e=>?_,os,bare⟩
    cases q:H b with
    | none=>exact un.keep b o e q (by intro z;exact absurd (show b∈([]:List Addr) from z) (by simp)) (by simp)
    | some u=>
     rcases hO b with z|⟨ob,xs,z⟩
     ·rw [q] at z;cases z
     ·have z2:=un.frzs b ob _ z;obtain⟨e1,_⟩:=hok b _ z;obtain⟨e2,_⟩:=hok' b _ z2;rw [e] at e1;cases e1;exact e2
 cases hk:K.lookup a with
 | some o=>
  have e:=KX a o hk;rw [ha] at e;cases e;refine core (λ _=>none) (λ _=>.inl rfl) (.inr ⟨_,vs.toArray,_,hk,rfl,rfl,rfl,by rw [KJ,lenV];exact hl,by simpa using rv⟩) (λ b u z=>by have z':(none:Option HO)=some u:=z;cases z') (λ b z=>absurd rfl z) λ z=>absurd rfl z
 | none=>
  refine core (λ b=>if b=a then some (.frz { cls:=.type "list",data:=.seq vs.toArray } (.lst (ns.map V.int))) else none) (λ b=>?_) (.inl (.inr ⟨{ cls:=.type "list",data:=.seq vs.toArray },Kx rfl⟩)) (λ b u z=>?_) (λ b z=>?_) λ _=>hk
  ·by_cases hb:b=a
   ·exact .inr ⟨_,_,Kx hb⟩
   ·exact .inl (Ks hb)
  ·by_cases hb:b=a
   ·have z':=(Kx hb).symm.trans z;cases z';subst hb;exact⟨ha,by rw [Kr];exact hl,vs,_,rv,ha⟩
   ·have z':=(Ks hb).symm.trans z;cases z'
  ·by_cases hb:b=a
   ·exact hb
   ·exact absurd (Ks hb) z
abbrev KOf{K:PySem.W.Frag}{h:Heap}(_:K.In h):PySem.W.Frag:=K
theorem IQ{l:W.OpenLaw}{n k:Nat}{q:Program}{loose:List Str}{XP:(Str->Option Value)->Heap->Prop}{YP:World->Heap->Prop}{d:DefRec}{K:Params->W.Frag}{CX:World->CXT}{sp:World->Sp}{x:Str}
  (hn:l.most=some n) (hn2:n<=sizeLine) (hdf:d.params.defaults=[]) (hr:gM k callerA)
  (hY:∀ (w:World) (h:Heap),YP w h->(K w.params).In h)
  (F:∀ (w:World) (mg:Str->Option Value) (fa:Addr) (h:Heap),(K w.params).In h->h.Ns mainGlobals mg->mg d.name=some (.ref fa) →
   ∃ fd:FuncData,(∀ (s:Shared) (u:Value),BindsTo s fd ⟨[u],[]⟩ [(x,u)]) /\
    ∀ base:Heap,(K w.params).In base->base.Ns mainGlobals mg->bq l.prog w (K w.params) mg base (CX w) k fa fd [x] (sp w))
  (hsp:∀ (w:World) (H:Hp) (a:Addr) (ns:List Int),ns.length<=n->HB H->SqL (K w.params) H a (ns.map V.int)->sp w [.ref a] H (λ v _=>v=.bl true) λ _ _ _=>False)
  (hCX:∀ (w:World) (H:Hp) (s:Shared) (e:Value) (s':Shared),CX w [] H s (λ _ _ _=>False) e s'->False) :
  W.WalkO q loose XP YP l.row.toRowW d [] (λ f vs=>PySem.call f vs):=by
 refine Att.attach_call hn hdf λ w s₀ s₁ mg mb fa o pm cd doc a vs ns G Y ho hd hcd hmg hobj hints hlen hg=>?_;have KX:=hY w _ Y;obtain⟨fd,hb,hF⟩:=F w mg fa _ KX G.T.g hmg;exact yE KX G.T.g G.T.b G.T.builtins G.T.nolimit hg hobj hints (Le hlen hn2) hr hF hb (λ H hO hS=>hsp w H a ns hlen hO hS) λ H e s'=>hCX w H s₁ e s'
def fY(s:Stmt)(j:Nat):Stmt:=match s with
 | .ClassDef _ _ _ body _ _ _ _ _ _ _=>body.getD j (.Pass ⟨0,0,0,0⟩)
 | _=>.Pass ⟨0,0,0,0⟩
def cZ(s:Stmt):Arguments:=match s with
 | .FunctionDef _ a _ _ _ _ _ _ _ _=>a
 | _=>{ posonlyargs:=[],args:=[],vararg:=none,kwonlyargs:=[],kw_defaults:=[],kwarg:=none,defaults:=[] }
def cn(s:Stmt):List Stmt:=match s with
 | .FunctionDef _ _ b _ _ _ _ _ _ _=>b
 | _=>[]
def aa(s:Stmt):Scope:=match s with
 | .FunctionDef _ _ _ _ _ _ sc _ _ _=>sc
 | _=>{ kind:=.function,names:=[],isGenerator:=false,isCoroutine:=false }
abbrev CX0:CXT:=λ _ _ _ _ _ _=>False
abbrev E0:XK:=λ _ _ _=>False
theorem tD{X:Cx}:jw CX0 X E0:=λ _ _ _ _ _ _ _ h=>h.elim
structure Fun(K:W.Frag)(x qual:Str)(st:Stmt)(f:Addr)(fd:FuncData):Prop where
 ex:∃ (oc:Value) (od:Option Addr) (kV doc pm:Value) (an:Option Addr) (cdv ct:Value) (osl:Array (Option Value)),
  fd=W.fnOf x qual (cZ st) (cn st) (aa st) .none kV doc pm an cdv ct/\K.lookup f=some ⟨oc,od,.func fd,osl⟩/\W.codeIn K cdv qual=true
 kp:W.keepIn K (.ref f)=true
section
variable {P:Program}{w:World}{K:PySem.W.Frag}{mg:Str->Option Value}{base:Heap}
theorem Fun.ok{x qual:Str}{st:Stmt}{f:Addr}{fd:FuncData}{N ps:List Str}{k:Nat}{sp:Sp}(F:Fun K x qual st f fd)(S:ah N ps (aa st))(len:∀ vs H Q E,sp vs H Q E->vs.length=ps.length)
  (hbody:∀ (cdv:Value) (A:Around) (outer:List Env) (s:Shared) (H:Hp) (vs:List V) (Q:VK) (E:XK),gM k (A.deeper (envOfC qual (aa st) s.heap.objs.size f cdv))->sp vs H Q E →
   ∃ t,PSs (zR CX0 P w K mg base N qual (aa st) f cdv A outer s H E).nox (cn st) t/\t { nx:=λ _ H'=>Q .non H',rt:=Q } (start N vs) H):bq P w K mg base CX0 (k+1) f fd ps sp:=by
 obtain⟨oc,od,kV,doc,pm,an,cdv,ct,osl,rfl,lk,hcd⟩:=F.ex;refine D8 lk hcd S len λ A outer s H vs Q E hr hsp=>?_;obtain⟨t,h,q⟩:=hbody cdv A outer s H vs Q E hr hsp;exact⟨t,h.nox,q⟩
theorem Fun.binds{x qual:Str}{st:Stmt}{f:Addr}{fd:FuncData}{ps:List Str}(F:Fun K x qual st f fd)
  (h:∀ (kV doc pm:Value) (an:Option Addr) (cdv ct:Value) (us:List Value),us.length=ps.length->bindArgs (W.fnOf x qual (cZ st) (cn st) (aa st) .none kV doc pm an cdv ct) ⟨us,[]⟩=pure (ps.zip us)):aC K fd ps []:=by
 obtain⟨oc,od,kV,doc,pm,an,cdv,ct,osl,rfl,lk,hcd⟩:=F.ex;exact .all (h kV doc pm an cdv ct)
theorem Gv{x qual:Str}{st:Stmt}{f:Addr}{oc:Value}{od an:Option Addr}{osl:Array (Option Value)}{kV doc pm cdv ct:Value}(l:K.lookup f=some ⟨oc,od,.func (W.fnOf x qual (cZ st) (cn st) (aa st) .none kV doc pm an cdv ct),osl⟩)
  (c:W.codeIn K cdv qual=true) (k:W.keepIn K (.ref f)=true):Fun K x qual st f (W.fnOf x qual (cZ st) (cn st) (aa st) .none kV doc pm an cdv ct):=⟨⟨oc,od,kV,doc,pm,an,cdv,ct,osl,rfl,l,c⟩,k⟩
end
theorem vm{n:Nat}(h:n<=1000):n < sizeLine:=Nat.lt_of_le_of_lt h (by decide)
section
variable {X:Cx}
theorem pv(i:Nat){x:Str}{pos:Pos}(hN:X.N[i]? = some x:=by rfl)(hv:Vis X.env.scope x:=by first|exact Or.inl rfl|exact Or.inr (Or.inl rfl)|exact Or.inr (Or.inr rfl))(hd:(x == ("__debug__":Str))=false:=by decide)
  (hcd:(x == ("__classdict__":Str))=false:=by decide):PE X (.Name x pos) (GC i):=Ey hN hv hd hcd
end
theorem JD{c A B:Prop}[Decidable c](h1:c->A)(h2:¬ c->B):if c then A else B:=by
 by_cases h:c
 ·rw [Kx h];exact h1 h
 ·rw [Ks h];exact h2 h
def lV(H H':Hp):Prop:=∀ b o,H b=some o->H' b=some o
theorem lV.refl(H:Hp):lV H H:=λ _ _ h=>h
theorem lV.trans{H H1 H2:Hp}(a:lV H H1)(b:lV H1 H2):lV H H2:=λ c o h=>b c o (a c o h)
theorem lV.free{H H':Hp}(e:lV H H'){l:Addr}(h:H' l=Option.none):H l=Option.none:=by
 cases q:H l with
 | none=>rfl
 | some o=>
  rw [e l o q] at h;cases h
theorem lV.seq{K:W.Frag}{H H':Hp}{a:Addr}{xs:List V}(e:lV H H')(h:SqL K H a xs):SqL K H' a xs:=by
 rcases h with (h|⟨o,h⟩)|h
 ·exact .inl (.inl (e _ _ h))
 ·exact .inl (.inr ⟨o,e _ _ h⟩)
 ·exact .inr h
section
variable {κ:Type}[DecidableEq κ]
def dw(kvs:List (κ × V))(k:κ):Option V:=(kvs.find? λ kv=>decide (kv.1=k)).map (·.2)
def dg(kvs:List (κ × V))(k:κ)(v:V):List (κ × V):=
 if (kvs.any λ kv=>decide (kv.1=k))=true then kvs.map (λ kv=>if kv.1=k then (kv.1,v) else kv) else kvs++[(k,v)]
theorem bQ{p:κ × V}{r:List (κ × V)}{k:κ}(e:p.1=k):dw (p::r) k=some p.2:=by simp [dw,MF,e]
theorem bR{p:κ × V}{r:List (κ × V)}{k:κ}(e:¬ p.1=k):dw (p::r) k=dw r k:=by simp [dw,MF,e]
theorem eE(k:κ):∀ kvs:List (κ × V),(kvs.any λ kv=>decide (kv.1=k))=(dw kvs k).isSome
 | []=>rfl
 | p::r=>by
  rw [any_cons]
  by_cases e:p.1=k
  ·simp only [bQ e,KN e,Bool.true_or,Option.isSome_some]
  ·rw [bR e,KD e,Bool.false_or];exact eE k r
theorem pY(k j:κ)(y:V):∀ kvs:List (κ × V),dw (kvs.map λ kv=>if kv.1=k then (kv.1,y) else kv) j=(dw kvs j).map λ x=>if j=k then y else x
 | []=>rfl
 | p::r=>by
  have ih:=pY k j y r;rw [KZ]
  by_cases h:p.1=k
  ·rw [Kx h]
   by_cases e:p.1=j
   ·rw [bQ (p:=(p.1,y)) e,bQ e,LZ,Kx (e.symm.trans h)]
   ·rw [bR (p:=(p.1,y)) e,bR e,ih]
  ·rw [Ks h]
   by_cases e:p.1=j
   ·rw [bQ (p:=p) e,bQ e,LZ,Ks (λ z=>h (e.trans z))]
   ·rw [bR (p:=p) e,bR e,ih]
theorem mi(k j:κ)(y:V):∀ kvs:List (κ × V),dw kvs k=none->dw (kvs++[(k,y)]) j=if j=k then some y else dw kvs j
 | [],_=>by
  by_cases e:k=j
  ·rw [Kx e.symm];exact bQ (p:=(k,y)) e
  ·rw [Ks (λ z=>e z.symm)];exact bR (p:=(k,y)) e
 | p::r,hn=>by
  rw [List.cons_append];have hk:¬ p.1=k:=λ z=>by rw [bQ z] at hn;cases hn
  rw [bR hk] at hn;have ih:=mi k j y r hn
  by_cases e:p.1=j
  ·rw [bQ e,bQ e,Ks (λ z=>hk (e.trans z))]
  ·rw [bR e,bR e,ih]
theorem ky(kvs:List (κ × V))(k j:κ)(y:V):dw (dg kvs k y) j=if j=k then some y else dw kvs j:=by
 unfold dg
 by_cases a:(kvs.any λ kv=>decide (kv.1=k))=true
 ·rw [Kx a,pY];rw [eE] at a
  by_cases e:j=k
  ·obtain⟨x,hx⟩:=Option.isSome_iff_exists.mp a;rw [Kx e,e,hx,LZ,Kx rfl]
  ·rw [Ks e]
   cases dw kvs j with
   | none=>rfl
   | some x=>rw [LZ,Ks e]
 ·rw [Ks a];refine mi k j y kvs ?_;rw [eE] at a
  cases q:dw kvs k with
  | none=>rfl
  | some x=>rw [q] at a;exact(a rfl).elim
theorem iR(kvs:List (κ × V))(k:κ)(v:V):(dg kvs k v).length<=kvs.length+1:=by
 unfold dg;split
 ·rw [Kr];omega
 ·rw [Ku,KY,Mo];omega
theorem lT.isSome_eq{o:Option V}{u:Option Value}(r:lT o u):o.isSome=u.isSome:=by
 cases o with
 | none=>cases u with
  | none=>rfl
  | some _=>exact(show False from r).elim
 | some _=>cases u with
  | none=>exact(show False from r).elim
  | some _=>rfl
theorem lT.getD{o:Option V}{u:Option Value}{d:V}{d':Value}(r:lT o u)(rd:bo d d'):bo (o.getD d) (u.getD d'):=by
 cases o with
 | none=>cases u with
  | none=>exact rd
  | some _=>exact(show False from r).elim
 | some _=>cases u with
  | none=>exact(show False from r).elim
  | some _=>exact r
theorem KV.val{kvs:List (κ × V)}{vs:List (κ × Value)}(r:KV kvs vs)(k:κ):lT (dw kvs k) (valueAt vs k):=by
 unfold KV at r
 induction r with
 | nil=>exact True.intro
 | @cons p q ps qs h t ih=>
  obtain⟨h1,h2⟩:=h
  by_cases e:p.1=k
  ·have e':q.1=k:=h1.symm.trans e;have b:valueAt (q::qs) k=some q.2:=by simp [valueAt,MF,e']
   rw [bQ e,b];exact h2
  ·have e':¬ q.1=k:=λ z=>e (h1.trans z);have b:valueAt (q::qs) k=valueAt qs k:=by simp [valueAt,MF,e']
   rw [bR e,b];exact ih
theorem KV.any{kvs:List (κ × V)}{vs:List (κ × Value)}(r:KV kvs vs)(k:κ):(kvs.any λ kv=>decide (kv.1=k))=vs.any λ kv=>decide (kv.1=k):=by
 unfold KV at r
 induction r with
 | nil=>rfl
 | cons h t ih=>rw [any_cons,any_cons,ih,h.1]
theorem KV.repl{kvs:List (κ × V)}{vs:List (κ × Value)}(r:KV kvs vs)(k:κ){y:V}{u:Value}(ry:bo y u) :
  KV (kvs.map λ kv=>if kv.1=k then (kv.1,y) else kv) (vs.map λ kv=>if kv.1=k then (kv.1,u) else kv):=by
 unfold KV at r ⊢
 induction r with
 | nil=>exact .nil
 | @cons p q ps qs h t ih=>
  rw [KZ,KZ];refine .cons ?_ ih;obtain⟨h1,h2⟩:=h
  by_cases e:p.1=k
  ·rw [Kx e,Kx (h1.symm.trans e)];exact⟨h1,ry⟩
  ·rw [Ks e,Ks (λ z=>e (h1.trans z))];exact⟨h1,h2⟩
theorem KV.put{kvs:List (κ × V)}{vs:List (κ × Value)}(r:KV kvs vs)(k:κ){y:V}{u:Value}(ry:bo y u):KV (dg kvs k y) (stored vs k u):=by
 unfold dg stored;rw [r.any k]
 by_cases e:(vs.any λ kv=>decide (kv.1=k))=true
 ·rw [Kx e,Kx e];exact r.repl k ry
 ·rw [Ks e,Ks e];exact Paired.snoc r ⟨rfl,ry⟩
theorem KV.length{kvs:List (κ × V)}{vs:List (κ × Value)}(r:KV kvs vs):kvs.length=vs.length:=MO r
end
theorem xD{P:Program}{w:World}{k:Key}{u:Value}(r:bo (kV k) u):(bj P w).is k u=true:=by
 cases k with
 | inl i=>obtain⟨t,e⟩:=(show ∃ t,u=Value.int i t from r);subst e;exact oW P w i t
 | inr x=>obtain⟨t,e⟩:=(show ∃ t,u=Value.str x t from r);subst e;exact oV P w x t
theorem mD{P:Program}{w:World}:∀ {ks:List Key}{us:List Value},aX (ks.map kV) us->ItemsAre (bj P w) ks us
 | [],_,r=>by rw [map_nil] at r;cases r;exact .nil
 | k::ks,_,r=>by
  rw [KZ] at r
  cases r with
  | cons h t=>exact .cons (xD h) (mD t)
abbrev KT(H:Hp):List (List Key × V)->List (List Key × Addr × Value)->Prop:=Paired λ p q=>p.1=q.1/\H q.2.1=some (.tup (p.1.map kV))/\bo p.2 q.2.2
theorem KT.val{H:Hp}{kvs:List (List Key × V)}{xs:List (List Key × Addr × Value)}(r:KT H kvs xs)(k:List Key):lT (dw kvs k) ((atKey xs k).map (·.2)):=by
 induction r with
 | nil=>exact True.intro
 | @cons p q ps qs h t ih=>
  obtain⟨h1,_,h2⟩:=h
  by_cases e:p.1=k
  ·have e':q.1=k:=h1.symm.trans e;have b:atKey (q::qs) k=some q.2:=by simp [atKey,MF,e']
   rw [bQ e,b];exact h2
  ·have e':¬ q.1=k:=λ z=>e (h1.trans z);have b:atKey (q::qs) k=atKey qs k:=by simp [atKey,MF,e']
   rw [bR e,b];exact ih
theorem KT.repl{H:Hp}{kvs:List (List Key × V)}{xs:List (List Key × Addr × Value)}(r:KT H kvs xs)(k:List Key){y:V}{u:Value}(ry:bo y u) :
  KT H (kvs.map λ kv=>if kv.1=k then (kv.1,y) else kv) (xs.map (putAt k u)):=by
 induction r with
 | nil=>exact .nil
 | @cons p q ps qs h t ih=>
  rw [map_cons,map_cons];refine .cons ?_ ih;obtain⟨h1,h2,h3⟩:=h;unfold putAt
  by_cases e:p.1=k
  ·rw [Kx e,Kx (h1.symm.trans e)];exact⟨h1,h2,ry⟩
  ·rw [Ks e,Ks (λ z=>e (h1.trans z))];exact⟨h1,h2,h3⟩
theorem KT.put{H:Hp}{kvs:List (List Key × V)}{xs:List (List Key × Addr × Value)}(r:KT H kvs xs)(k:List Key){b:Addr}{y:V}{u:Value}(hb:H b=some (.tup (k.map kV)))(ry:bo y u) :
  KT H (dg kvs k y) (storedH xs k b u):=by
 have e:(kvs.any λ kv=>decide (kv.1=k))=(atKey xs k).isSome:=by
  rw [eE,(r.val k).isSome_eq,Option.isSome_map]
 unfold dg storedH;rw [e]
 by_cases q:(atKey xs k).isSome=true
 ·rw [Kx q,Kx q];exact r.repl k ry
 ·rw [Ks q,Ks q];exact Paired.snoc r ⟨rfl,hb,ry⟩
theorem KT.keeps{H H':Hp}{kvs:List (List Key × V)}{xs:List (List Key × Addr × Value)}(r:KT H kvs xs)(ht:∀ b ys,H b=some (.tup ys)->H' b=some (.tup ys)):KT H' kvs xs:=
 Paired.mapP r λ _ _ z=>⟨z.1,ht _ _ z.2.1,z.2.2⟩
section
variable {P:Program}{w:World}{H:Hp}{h:Heap}{a:Addr}
theorem DJ{u:HO}(ok:HOk P w H h)(e:Rd H a u):b5 P w H h a u:=e.ok ok
theorem tM{kvs:List (Key × V)}(ok:HOk P w H h)(e:Rd H a (.dK kvs)):kvs.length<=sizeLine/\(a == sysModules)=false/\∃ vs,KV kvs vs/\h.DictOf (bj P w) a vs:=
 show b5 P w H h a (.dK kvs) from DJ ok e
theorem A1{kvs:List (Key × V)}(ok:HOk P w H h)(e:H a=some (.dK kvs)):kvs.length<=sizeLine/\(a == sysModules)=false/\∃ vs,KV kvs vs/\h.DictOf (bj P w) a vs:=tM ok (.inl e)
theorem pP{ks:List Key}(ok:HOk P w H h)(e:H a=some (.tup (ks.map kV))):(tupleKind (bj P w)).is h ks a:=by
 obtain⟨_,its,r,o,h1,h2,n,h3⟩:=(show b5 P w H h a (.tup (ks.map kV)) from ok a _ e);exact⟨o,its.toArray,n,h1,h2,h3,by simpa using mD r⟩
theorem tL{kvs:List (List Key × V)}(ok:HOk P w H h)(e:Rd H a (.dT kvs)):kvs.length<=sizeLine/\(a == sysModules)=false /\
  ∃ xs,KT H kvs xs/\h.DictOfH (tupleKind (bj P w)) a xs:=by
 obtain⟨z,y,xs,r,o,es,ep,h1,h2,h3,h4,h5⟩:=(show b5 P w H h a (.dT kvs) from DJ ok e);refine⟨z,y,xs,r,o,es,ep,h1,h2,h3,h4,λ x hx=>?_,h5⟩
 have all:∀ {l:List (List Key × V)} {m:List (List Key × Addr × Value)},KT H l m->∀ x∈m,(tupleKind (bj P w)).is h x.1 x.2.1:=by
  intro l m q
  induction q with
  | nil=>intro x hx;exact nomatch hx
  | @cons p q ps qs hq t ih=>
   intro x hx
   rcases KS.mp hx with e|hx
   ·subst e;exact pP ok (by rw [←hq.1];exact hq.2.1)
   ·exact ih x hx
 exact all r x hx
theorem II{kvs:List (List Key × V)}(ok:HOk P w H h)(e:H a=some (.dT kvs)):kvs.length<=sizeLine/\(a == sysModules)=false /\
  ∃ xs,KT H kvs xs/\h.DictOfH (tupleKind (bj P w)) a xs:=tL ok (.inl e)
end
def sY(H:Hp)(a:Addr)(y:V)(r:Option V):Prop:=
 (∃ kvs k,Rd H a (.dK kvs)/\y=kV k/\r=dw kvs k)\/∃ kvs k b,Rd H a (.dT kvs)/\y=.ref b/\H b=some (.tup (k.map kV))/\r=dw kvs k
def Dn(H:Hp)(a:Addr)(y v:V)(H':Hp):Prop:=
 (∃ kvs k,H a=some (.dK kvs)/\y=kV k/\kvs.length < sizeLine/\H'=upd H a (.dK (dg kvs k v))) \/
 ∃ kvs k b,H a=some (.dT kvs)/\y=.ref b/\H b=some (.tup (k.map kV))/\kvs.length < sizeLine/\H'=upd H a (.dT (dg kvs k v))
theorem sY.k{H:Hp}{a:Addr}{kvs:List (Key × V)}{k:Key}(e:H a=some (.dK kvs)):sY H a (kV k) (dw kvs k):=.inl ⟨kvs,k,.inl e,rfl,rfl⟩
theorem Dn.k{H:Hp}{a:Addr}{kvs:List (Key × V)}{k:Key}{v:V}(e:H a=some (.dK kvs))(hl:kvs.length < sizeLine):Dn H a (kV k) v (upd H a (.dK (dg kvs k v))):=.inl ⟨kvs,k,e,rfl,hl,rfl⟩
section
variable {X:Cx}{pins:List (Addr × Obj)}{σ:St}{H:Hp}{s:Shared}{a:Addr}{y v:V}{u r:Value}{o:Option V}{A:Around}{E:Value->Shared->Prop}
theorem Inv.big(I:Inv X pins σ H s):sysModules < s.heap.objs.size:=by
 have h:mainGlobals < s.heap.objs.size:=(I.mod.glob.keeps I.bk).lt;exact Mh (by decide) h
theorem w6{Q:Value->Shared->Prop}(hu:A.units+1 < cLine)(I:Inv X pins σ H s)(g:sY H a y (some v))(ry:bo y u)(h:∀ w' s',Inv X pins σ H s'->bo v w'->Q w' s') :
  wpAny (model X.prog X.w) A (getItem (.ref a) u) Q E s:=by
 rcases g with ⟨kvs,k,e,ey,l⟩|⟨kvs,k,b,e,ey,eb,l⟩
 ·subst ey;obtain⟨z,hd,vs,rel,dd⟩:=tM I.hok e;obtain⟨w',hw,rw'⟩:=lT.some_of (v:=v) (o:=valueAt vs k) (by rw [l];exact rel.val k);exact wpAny_getItem_of (xD ry) dd.mapOf hw (h w' _ (I.tok _) rw')
 ·subst ey;cases (show u=Value.ref b from ry);obtain⟨z,hd,xs,rel,dd⟩:=tL I.hok e;obtain⟨w',hw,rw'⟩:=lT.some_of (v:=v) (o:=(atKey xs k).map (·.2)) (by rw [l];exact rel.val k);obtain⟨p,hp,hp2⟩:=KA.mp hw;refine wpAny_getItem_heap (Nj hu) (pP I.hok eb) dd hp ?_;rw [hp2];exact h w' _ (I.tok _) rw'
theorem u6{h':Heap}{t':Nat}{ob:HO}(I:Inv X pins σ H s)(mu:Mut (H a))(hs:Heap.SameBut a s.heap h')(he:∃ q,h'.get? a=some q)(new:b5 X.prog X.w (upd H a ob) h' a ob) :
  Inv X pins σ (upd H a ob) { s with heap:=h',toks:=t' }:=
 I.write (x:=a) (e:=a) mu (.inl rfl) (λ b q hb z=>(hs.2 b hb).trans z) he new
theorem Gx{P:Program}{w:World}{H':Hp}{h':Heap}{kvs:List (Key × V)}{vs:List (Key × Value)}(z:kvs.length<=sizeLine)(hd:(a == sysModules)=false)(rel:KV kvs vs)(dd:h'.DictOf (bj P w) a vs) :
  b5 P w H' h' a (.dK kvs):=⟨z,hd,vs,rel,dd⟩
theorem w5{H':Hp}{Q:Unit->Shared->Prop}(hu:A.units+1 < cLine)(I:Inv X pins σ H s)(g:Dn H a y v H')(ry:bo y u)(rv:bo v r)(h:∀ s',Inv X pins σ H' s'->Q () s') :
  wpAny (model X.prog X.w) A (setItem (.ref a) u r) Q E s:=by
 rcases g with ⟨kvs,k,e,ey,l,eH⟩|⟨kvs,k,b,e,ey,eb,l,eH⟩
 ·subst ey eH;obtain⟨z,hd,vs,rel,dd⟩:=A1 I.hok e;have hz:vs.length<=sizeLine:=by rw [←rel.length];exact z
  have hl:(dg kvs k v).length<=sizeLine:=by have:=iR kvs k v;omega
  refine wpAny_setItem_pairs (hsz:=hz) (xD ry) dd λ h' dd' hs=>h _ ?_;have he:∃ q,h'.get? a=some q:=let ⟨q,_,_,hq,_⟩:=dd';⟨q,hq⟩;exact u6 I (by rw [e];exact True.intro) hs he (Gx hl hd (rel.put k rv) dd')
 ·subst ey eH;cases (show u=Value.ref b from ry);obtain⟨z,hd,xs,rel,dd⟩:=II I.hok e;have hz:xs.length<=sizeLine:=by rw [←MO rel];exact z
  have hl:(dg kvs k v).length<=sizeLine:=by have:=iR kvs k v;omega
  refine wpAny_setItem_heap (hsz:=hz) (Nj hu) (pP I.hok eb) dd λ h' dd' hs=>h _ ?_;obtain⟨q,es,ep,hq,h2,h3,h4,_,h5⟩:=dd';refine u6 I (by rw [e];exact True.intro) hs ⟨q,hq⟩ ⟨hl,hd,_,(rel.put k eb rv).keeps λ c ys ec=>?_,q,es,ep,hq,h2,h3,h4,h5⟩;rw [ak (HR ec e (λ z=>nomatch z))];exact ec
end
section
variable {X:Cx}{pins:List (Addr × Obj)}{σ:St}{H:Hp}{s:Shared}{a:Addr}{kvs:List (Key × V)}{k:Key}{u:Value}{A:Around}{E:Value->Shared->Prop}
end
def JM(i:Expr):Prop:=∀ ov iv,subscripted i false ov iv=operate [ov,iv] (getItem ov iv)
theorem Bc{prog:Program}{w:World}{A:Around}{E:Value->Shared->Prop}{s:Shared}{env:Env}{value slice:Expr}{pos:Pos}{T id:String}{Q:Value->Shared->Prop}
  (hl:typeLookup (.type T) "__getitem__"=pure (some (.builtin id))) (hs:JM slice)
  (h:wpAny (model prog w) A (eval value env) (λ o s₁=>wpAny (model prog w) A (eval slice env) (λ i s₂=>s₂.TypeIs o T/\wpAny (model prog w) A (getItem o i) Q E s₂) E s₁) E s) :
  wpAny (model prog w) A (eval (.Subscript value slice pos) env) Q E s:=by
 refine Subscript_ (wpAny_mono h (λ o s₁ h₁=>wpAny_mono h₁ (λ i s₂ h₂=>?_) λ _ _ x=>x) λ _ _ x=>x);obtain⟨hT,h₂⟩:=h₂;unfold subscriptTail;refine wpAny_bind ?_;rw [getitemInPython_of_ne hT.not_modules];refine wpAny_bind (wpAny_specialOf hT hl ?_)
 have fin:wpAny (model prog w) A (subscripted slice false o i) (λ r s₃=>wpAny (model prog w) A (letTemporaryGo value o r >>= λ _=>pure r) Q E s₃) E s₂:=by
  rw [hs o i];exact wpAny_operating (MH h₂ (λ r s₃ h₃=>Kl (wpAny_letTemporaryGo (Kv h₃))) λ _ _ x=>x)
 first
  | exact Kv (Kl fin)
  | exact Kl (Kv (Kl fin))
  | exact Kl fin
theorem pd{X:Cx}{pins:List (Addr × Obj)}{σ:St}{H:Hp}{s:Shared}{a:Addr}{y:V}{o:Option V}(I:Inv X pins σ H s)(g:sY H a y o):s.TypeIs (.ref a) "dict":=by
 rcases g with ⟨kvs,k,e,_,_⟩|⟨kvs,k,b,e,_,_,_⟩
 ·obtain⟨_,_,vs,_,dd⟩:=tM I.hok e;exact dd.typeIs
 ·obtain⟨_,_,xs,_,dd⟩:=tL I.hok e;exact dd.typeIs
def DF(td ty:TE):TE:=λ σ H Q=>td σ H λ x H1=>ty σ H1 λ y H2=>∃ a v,x=.ref a/\sY H2 a y (some v)/\Q v H2
def DI(td ty tv:TE):TS:=λ D σ H=>tv σ H λ v H1=>td σ H1 λ x H2=>ty σ H2 λ y H3=>∃ a H4,x=.ref a/\Dn H3 a y v H4/\D.nx σ H4
section
variable {X:Cx}{o i e value:Expr}{pos pos' tpos:Pos}{td ty tv:TE}
theorem oz(hu:X.A.units+1 < cLine)(ho:PE X o td)(hi:PE X i ty)(hs:JM i):PE X (.Subscript o i pos) (DF td ty):=by
 intro pins s σ H Q I h;refine Bc PySem.F.slot_dict_getitem.lookup hs (thn (ho pins s σ H _ I h) λ u s1 ⟨x,H1,I1,rx,q1⟩=>thn (hi pins s1 σ H1 _ I1 q1) λ iv s2 ⟨y,H2,I2,ry,a,v,ex,g,q2⟩=>?_);subst ex;obtain rfl:u=Value.ref a:=rx;exact⟨pd I2 g,w6 hu I2 g ry λ w' s3 I3 rw'=>⟨v,H2,I3,rw',q2⟩⟩
theorem Bl(hu:X.A.units+1 < cLine)(ho:PE X o td)(hi:PE X i ty)(hv:PE X value tv)(hs:swapsWith value (some (.Subscript o i pos')) pos.line X.env=pure false) :
  PS X (.Assign [.Subscript o i pos'] value pos) (DI td ty tv):=by
 intro pins s σ H D I h;refine wpAny_Assign_Subscript (thn (hv pins s σ H _ I h) λ r s1 ⟨v,H1,I1,rv,q1⟩=>thn (ho pins s1 σ H1 _ I1 q1) λ u s2 ⟨x,H2,I2,rx,q2⟩=>thn (hi pins s2 σ H2 _ I2 q2) λ iv s3 ⟨y,H3,I3,ry,a,H4,ex,g,q3⟩=>?_) hs;subst ex;obtain rfl:u=Value.ref a:=rx;exact w5 hu I3 g ry rv λ s4 I4=>⟨σ,H4,I4,q3⟩
end
theorem zy{P:Program}{w:World}{H:Hp}(h:Heap)(hb:sysModules < h.objs.size):b5 P w H (h.push { cls:=.type "dict",data:=.dict #[] }) h.objs.size (.dK []):=
 ⟨Lk _,LU.mpr (K6 (KL hb)),[],.nil,Heap.DictOf.new h⟩
def Eh:TE:=λ _ H Q=>∀ p,H p=none->Q (.ref p) (upd H p (.dK []))
section
variable {X:Cx}{pos:Pos}
theorem ye:PE X (.Dict [] [] pos) Eh:=λ pins s σ H Q I h=>
 wpAny_Dict_empty ⟨.ref s.heap.objs.size,_,I.laid (a:=s.heap.objs.size) (o:=.dK []) (t':=s.toks) (λ _ _ q=>Kn _ q) (Kq _) (zy s.heap I.big),rfl,h _ (I.hok.fresh (Kq _))⟩
end
structure M1(X:Cx)(o:Expr)(m:Str)(apos:Pos)(e:Expr)(cpos:Pos):Prop where
 base:attributeBase o m X.env (eval o X.env)=eval o X.env
 few:((backTo cpos (starEach [e] X.env)).all (λ x=>!x.1) && (backToKw cpos (keywordEach [] X.env)).all (λ x=>x.1.isSome)
  && decide (([e]:List Expr).length+([]:List Keyword).length+(if ([]:List Keyword).isEmpty then 0 else 1) < 30))=true
 line:(apos.endLine == cpos.line)=true
 trees:backTo cpos (starEach [e] X.env)=[(false,eval e X.env)]
structure M2(X:Cx)(o:Expr)(m:Str)(apos:Pos)(e f:Expr)(cpos:Pos):Prop where
 base:attributeBase o m X.env (eval o X.env)=eval o X.env
 few:((backTo cpos (starEach [e,f] X.env)).all (λ x=>!x.1) && (backToKw cpos (keywordEach [] X.env)).all (λ x=>x.1.isSome)
  && decide (([e,f]:List Expr).length+([]:List Keyword).length+(if ([]:List Keyword).isEmpty then 0 else 1) < 30))=true
 line:(apos.endLine == cpos.line)=true
 trees:backTo cpos (starEach [e,f] X.env)=[(false,eval e X.env),(false,eval f X.env)]
def IsD(H:Hp)(a:Addr):Prop:=(∃ kvs,Rd H a (.dK kvs))\/∃ kvs,Rd H a (.dT kvs)
theorem Gs{X:Cx}{pins:List (Addr × Obj)}{σ:St}{H:Hp}{s:Shared}{a:Addr}(I:Inv X pins σ H s)(d:IsD H a) :
  s.TypeIs (.ref a) "dict" /\ (∀ b,Value.ref a=.ref b->∃ ob,s.heap.get? b=some ob/\ob.dict=none)/\(a == sysModules)=false:=by
 rcases d with ⟨kvs,e⟩|⟨kvs,e⟩
 ·obtain⟨_,hd,vs,_,dd⟩:=tM I.hok e;refine⟨dd.typeIs,λ b q=>?_,hd⟩;cases q;obtain⟨ob,_,_,h1,h2,_⟩:=dd;exact⟨ob,h1,h2.2.1⟩
 ·obtain⟨_,hd,xs,_,dd⟩:=tL I.hok e;refine⟨dd.typeIs,λ b q=>?_,hd⟩;cases q;obtain⟨ob,_,_,h1,h2,_⟩:=dd;exact⟨ob,h1,h2.2.1⟩
section
variable {X:Cx}{pins:List (Addr × Obj)}{σ:St}{H:Hp}{s:Shared}{a:Addr}{y d:V}{u r:Value}{o:Option V}{A:Around}{E:Value->Shared->Prop}
theorem Gy{Q:Value->Shared->Prop}(hu:A.units+1 < cLine)(I:Inv X pins σ H s)(g:sY H a y o)(ry:bo y u)(rd:bo d r)(h:∀ w' s',Inv X pins σ H s'->bo (o.getD d) w'->Q w' s') :
  wpAny (model X.prog X.w) A (call (.builtin "dict.get") [.ref a,u,r]) Q E s:=by
 rcases g with ⟨kvs,k,e,ey,l⟩|⟨kvs,k,b,e,ey,eb,l⟩
 ·subst ey;obtain⟨z,hd,vs,rel,dd⟩:=tM I.hok e;refine call_meetsIn MK dd.typeIs PySem.F.entry_dict_get (PySem.F.args_dict_get_3 _ _ _) (meets_dict_get_default (bj X.prog X.w) a (xD ry) hd r) ⟨_,dd.mapOf,h _ _ (I.tok _) ?_⟩;rw [l];exact(rel.val k).getD rd
 ·subst ey;cases (show u=Value.ref b from ry);obtain⟨z,hd,xs,rel,dd⟩:=tL I.hok e;refine call_meetsIn MK dd.typeIs PySem.F.entry_dict_get (PySem.F.args_dict_get_3 _ _ _) (meetsH_dict_get_default (tupleKind (bj X.prog X.w)) a b hd r) ⟨Nj hu,k,xs,pP I.hok eb,dd,h _ _ (I.tok _) ?_⟩;rw [l];exact(rel.val k).getD rd
end
def zY(td ty tx:TE):TE:=λ σ H Q=>td σ H λ x H1=>∃ a,x=.ref a/\IsD H1 a/\ty σ H1 λ y H2=>tx σ H2 λ z H3=>∃ o,sY H3 a y o/\Q (o.getD z) H3
section
variable {X:Cx}{o e f:Expr}{apos cpos:Pos}{td ty tx:TE}
theorem yg(hu:X.A.units+1 < cLine)(ho:PE X o td)(he:PE X e ty)(hf:PE X f tx)(m:M2 X o "get" apos e f cpos):PE X (.Call (.Attribute o "get" apos) [e,f] [] cpos) (zY td ty tx):=by
 intro pins s σ H Q I h;refine wpAny_Call_method m.base m.few m.line PySem.F.plainAttrs_dict MK PySem.F.type_dict_get (thn (ho pins s σ H _ I h) λ u s1 ⟨x,H1,I1,rx,a,ex,d,q1⟩=>?_);subst ex;obtain rfl:u=Value.ref a:=rx;obtain⟨t1,t2,_⟩:=Gs I1 d;refine⟨t1,t2,?_⟩;rw [m.trees]
 refine MX rfl (Calls.evalArgs_plain (Nm (thn (he pins s1 σ H1 _ I1 q1) λ iv s2 ⟨y,H2,I2,ry,q2⟩=>
  Nm (thn (hf pins s2 σ H2 _ I2 q2) λ fv s3 ⟨z,H3,I3,rz,ov,g,q3⟩=>Calls.spliced_nil ?_))))
 exact Gy hu I3 g ry rz λ w' s4 I4 rw'=>⟨_,H3,I4,rw',q3⟩
end
section
variable {X:Cx}{pins:List (Addr × Obj)}{σ:St}{H:Hp}{s:Shared}{a:Addr}{kvs:List (Key × V)}{A:Around}{E:Value->Shared->Prop}
end
section
variable {X:Cx}{pins:List (Addr × Obj)}{σ:St}{H:Hp}{s:Shared}{a:Addr}{y:V}{u:Value}{A:Around}{E:Value->Shared->Prop}
end
section
variable {κ:Type}[DecidableEq κ]
theorem GQ{kvs:List (κ × V)}{k:κ}(h:dw kvs k=none):¬ k∈kvs.map (·.1):=by
 intro m;obtain⟨p,hp,e⟩:=KG.mp m;have q:(kvs.any λ kv=>decide (kv.1=k))=true:=List.any_eq_true.mpr ⟨p,hp,KN e⟩;rw [eE,h] at q;exact absurd q (by simp)
end
section
variable {X:Cx}
def xN(_ j:Int):Prop:=j ≠ 0/\j.natAbs < 2 ^ 256
theorem Gj{j:Int}(h:j ≠ 0)(hj:j.natAbs < 2 ^ 256):j.natAbs.log2 < 9000:=by
 have h0:j.natAbs ≠ 0:=by omega
 have h1:=(Nat.log2_lt h0).mpr hj;omega
theorem yl:OpR X (binaryOp .FloorDiv) (rI xN λ i j=>.int (i.fdiv j)):=opI λ _ _ _ _ _ _ _ hc q=>floordiv_int hc.1 q (.inl (PyProof.noPylong_of_log2 (Gj hc.1 hc.2)))
theorem zC:bN X (.builtin "isinstance") (λ xs H Q=>∃ x n ty b,xs=[x,.ty n]/\pG X.K H x ty/\W.kitOne X.K ty (.type n)=some b/\Q (.bl b) H):=by
 intro pins s σ H xs us Q I r h;obtain⟨x,n,ty,b,rfl,hty,hk,q⟩:=h;obtain⟨u,w',rfl,rx,rc⟩:=Au r;cases (show w'=Value.type n from rc);exact wQ I rx hty hk (λ tk=>⟨.bl b,H,I.tok _,rfl,q⟩)
theorem wL(K:W.Frag)(A B:String)(r:Bool)
  (h:(if (Value.type A == Value.type B)=true then some true else if W.kitMeta B=true then (fastBuiltinMro A).map (·.contains (.type B)) else none)=some r):W.kitOne K (.type A) (.type B)=some r:=h
mutual
inductive j2 (K:PySem.W.Frag) (H:Hp):V->PyData->Prop
 | non:j2 K H .non .none
 | bl (b:Bool):j2 K H (.bl b) (.bool b)
 | int (i:Int):j2 K H (.int i) (.int i)
 | str (x:Str):j2 K H (.str x) (.str x)
 | lst {a:Addr} {xs:List V} {ds:List PyData} (h:SqL K H a xs) (r:hJ K H xs ds):j2 K H (.ref a) (.list ds)
 | tup {a:Addr} {xs:List V} {ds:List PyData} (h:SqT K H a xs) (r:hJ K H xs ds):j2 K H (.ref a) (.tuple ds)
inductive hJ (K:PySem.W.Frag) (H:Hp):List V->List PyData->Prop
 | nil:hJ K H [] []
 | cons {x:V} {d:PyData} {xs:List V} {ds:List PyData} (h:j2 K H x d) (t:hJ K H xs ds):hJ K H (x::xs) (d::ds)
end
mutual
theorem j2.reads{pins:List (Addr × Obj)}{σ:St}{H:Hp}{s:Shared}(I:Inv X pins σ H s):∀ {x:V}{d:PyData}{u:Value},j2 X.K H x d->bo x u->∃ as,Reads s.heap u d as
 | _,_,_,.non,r=>by cases (show _=Value.none from r);exact⟨_,.none⟩
 | _,_,_,.bl b,r=>by cases (show _=Value.bool b from r);exact⟨_,.bool b⟩
 | _,_,_,.int i,r=>by obtain⟨t,rfl⟩:=r;exact⟨_,.int i t⟩
 | _,_,_,.str x,r=>by obtain⟨t,rfl⟩:=r;exact⟨_,.str x t⟩
 | _,_,_,@j2.lst _ _ a xs ds h q,r=>by
  cases (show _=Value.ref a from r);obtain⟨its,hv,hp,_⟩:=I.list h;obtain⟨o,n,e,c,_,d⟩:=hp;obtain⟨as,z⟩:=hJ.reads I q hv;exact⟨_,.list e c d (by simpa using z)⟩
 | _,_,_,@j2.tup _ _ a xs ds h q,r=>by
  cases (show _=Value.ref a from r);obtain⟨its,hv,hp,_⟩:=I.tuple h;obtain⟨o,e,c,n,d⟩:=hp;obtain⟨as,z⟩:=hJ.reads I q hv;exact⟨_,.tuple e c d (by simpa using z)⟩
theorem hJ.reads{pins:List (Addr × Obj)}{σ:St}{H:Hp}{s:Shared}(I:Inv X pins σ H s):∀ {xs:List V}{ds:List PyData}{us:List Value},hJ X.K H xs ds->aX xs us->∃ as,ReadsAll s.heap us ds as
 | _,_,_,.nil,.nil=>⟨_,.nil⟩
 | _,_,_,.cons h t,.cons r q=>by
  obtain⟨as,z⟩:=j2.reads I h r;obtain⟨bs,y⟩:=hJ.reads I t q;exact⟨_,.cons z y⟩
end
def J2(K:W.Frag):R2:=λ x y H Q=>∃ d e,j2 K H x d/\j2 K H y e/\SeqAt.shaped d=true/\SeqAt.shaped e=true/\Q (.bl (PyData.eqv d e)) H
def JZ(K:W.Frag):R2:=λ x y H Q=>∃ d e,j2 K H x d/\j2 K H y e/\SeqAt.shaped d=true/\SeqAt.shaped e=true/\Q (.bl (!PyData.eqv d e)) H
theorem EH(hu:X.A.units+64 < cLine):OpR X (compareOp .Eq) (J2 X.K):=by
 intro pins s σ H x y v u Q I rx ry h;obtain⟨d,e,hd,he,sd,se,q⟩:=h;obtain⟨as,z⟩:=hd.reads I rx;obtain⟨bs,z'⟩:=he.reads I ry;exact SeqAt.compareEq_shaped z z' sd se hu ⟨.bl _,H,I,rfl,q⟩
theorem EE(hu:X.A.units+64 < cLine):OpR X (compareOp .NotEq) (JZ X.K):=by
 intro pins s σ H x y v u Q I rx ry h;obtain⟨d,e,hd,he,sd,se,q⟩:=h;obtain⟨as,z⟩:=hd.reads I rx;obtain⟨bs,z'⟩:=he.reads I ry;exact SeqAt.compareNe_shaped z z' sd se hu ⟨.bl _,H,I,rfl,q⟩
end
theorem xY{H:Hp}{p:Addr}{o:HO}(h:H p=none):lV H (upd H p o):=λ b u e=>by
 rw [ak (bK e h)];exact e
theorem Am{α:Type}(xs:List α)(i:Int)(h0:0<=i)(h1:i < xs.length):∃ v,atI xs i=some v/\v∈xs:=by
 have hl:i.toNat < xs.length:=by omega
 refine⟨xs[i.toNat],?_,Lu hl⟩;have e:((i.toNat:Nat):Int)=i:=by omega
 have:=ff (xs:=xs) (j:=i.toNat) (v:=xs[i.toNat]) (Kk hl);rw [e] at this;exact this
theorem qw(ns:List Int)(i:Int)(h0:0<=i)(h1:i < ns.length):∃ z,atI (ns.map V.int) i=some (.int z)/\z∈ns:=by
 obtain⟨v,e,m⟩:=Am (ns.map V.int) i h0 (by simpa using h1);obtain⟨z,hz,rfl⟩:=KG.mp m;exact⟨z,e,hz⟩
def lS(cells:List (Str × Addr)):List (Str × NameKind)->List (Str × Addr)->List (Str × Addr)
 | [],acc=>acc
 | (n,k)::r,acc=>if (k == .free)=true then lS cells r ((n,(cells.lookup n).getD 0)::acc) else lS cells r acc
theorem fz{env:Env}:∀ (names:List (Str × NameKind)) (acc:List (Str × Addr)),(∀ y∈names,y.2=.free->∃ c,env.cells.lookup y.1=some c) →
  (forIn names acc (λ (x:Str × NameKind) (cs:List (Str × Addr))=>match x with
   | (name,kind)=>if (kind == .free)=true then (do let a ←cellOf env name;pure (ForInStep.yield ((name,a)::cs))) else (do pure PUnit.unit;pure (ForInStep.yield cs))):Sem (List (Str × Addr)))=pure (lS env.cells names acc)
 | [],acc,_=>rfl
 | (n,k)::r,acc,h=>by
  rw [Nk];have hr:∀ y∈r,y.2=.free->∃ c,env.cells.lookup y.1=some c:=λ y hy=>h y (Ko _ hy)
  by_cases hk:(k == .free)=true
  ·obtain⟨c,hc⟩:=h (n,k) mem_cons_self (by simpa using hk);have hc':env.cells.lookup n=some c:=hc;simp only [hk,if_true,lS,hc',Option.getD_some];have e:cellOf env n=pure c:=by unfold cellOf;rw [hc']
   rw [e];exact fz r _ hr
  ·simp only [hk,if_false,lS];exact fz r acc hr
theorem fR{scope:Scope}{env:Env}(h:∀ y∈scope.names,y.2=.free->∃ c,env.cells.lookup y.1=some c):closureFor scope env=pure (lS env.cells scope.names []):=by
 unfold closureFor;have:=fz (env:=env) scope.names [] h
 first
  | exact(Lv (λ m=>m >>= λ cs=>pure cs) this).trans (pure_bind _ _)
  | (simp only [] at this ⊢;rw [this];rfl)
theorem lq{cells:List (Str × Addr)}{x:Str}{c:Addr}:∀ {names:List (Str × NameKind)}{acc:List (Str × Addr)},(∀ y∈names,y.2=.free->∃ c,cells.lookup y.1=some c)->(lS cells names acc).lookup x=some c->acc.lookup x=some c\/cells.lookup x=some c
 | [],acc,_,h=>.inl h
 | (n,k)::r,acc,hf,h=>by
  have hr:∀ y∈r,y.2=.free->∃ c,cells.lookup y.1=some c:=λ y hy=>hf y (mem_cons_of_mem _ hy);unfold lS at h
  by_cases hk:(k == .free)=true
  ·rw [Kx hk] at h
   rcases lq hr h with q|q
   ·rw [LN] at q
    cases hx:x == n with
    | true=>
     rw [hx] at q;obtain⟨d,hd⟩:=hf (n,k) Kp (by simpa using hk);have e:x=n:=by simpa using hx
     subst e;have hd':cells.lookup x=some d:=hd;rw [hd'] at q ⊢;exact .inr (by simpa using q)
    | false=>rw [hx] at q;exact .inl q
   ·exact .inr q
  ·rw [Ks hk] at h;exact lq hr h
theorem lr{cells:List (Str × Addr)}{x:Str}:∀ {names:List (Str × NameKind)}{acc:List (Str × Addr)},(∀ y∈names,y.2=.free->∃ c,cells.lookup y.1=some c)->(∃ c,acc.lookup x=some c)->∃ c,(lS cells names acc).lookup x=some c
 | [],acc,_,h=>h
 | (n,k)::r,acc,hf,h=>by
  have hr:∀ y∈r,y.2=.free->∃ c,cells.lookup y.1=some c:=λ y hy=>hf y (mem_cons_of_mem _ hy);unfold lS
  by_cases hk:(k == .free)=true
  ·rw [Kx hk];refine lr hr ?_;rw [LN]
   cases hx:x == n with
   | true=>exact⟨_,rfl⟩
   | false=>exact h
  ·rw [Ks hk];exact lr hr h
theorem gW{cells:List (Str × Addr)}{x:Str}:∀ {names:List (Str × NameKind)}{acc:List (Str × Addr)},(∀ y∈names,y.2=.free->∃ c,cells.lookup y.1=some c)->names.lookup x=some .free->∃ c,(lS cells names acc).lookup x=some c
 | [],acc,_,h=>by simp at h
 | (n,k)::r,acc,hf,h=>by
  have hr:∀ y∈r,y.2=.free->∃ c,cells.lookup y.1=some c:=λ y hy=>hf y (mem_cons_of_mem _ hy);rw [lookup_cons] at h;unfold lS
  cases hx:x == n with
  | true=>
   rw [hx] at h;have hk:k=.free:=by simpa using h
   subst hk;rw [Kx (show (NameKind.free == NameKind.free)=true from rfl)];refine lr hr ⟨(cells.lookup n).getD 0,?_⟩;rw [LN,hx]
  | false=>
   rw [hx] at h
   by_cases hk:(k == .free)=true
   ·rw [Kx hk];exact gW hr h
   ·rw [Ks hk];exact gW hr h
theorem eM{x:Str}{k:NameKind}:∀ {names:List (Str × NameKind)},names.lookup x=some k->(x,k)∈names
 | [],h=>by simp at h
 | (n,j)::r,h=>by
  rw [LN] at h
  cases hx:x == n with
  | true=>
   rw [hx] at h;have e:x=n:=by simpa using hx
   have e2:j=k:=by simpa using h
   subst e;subst e2;exact Kp
  | false=>rw [hx] at h;exact Ko _ (eM h)
theorem df{env:Env}{x:Str}:∀ {names:List (Str × NameKind)},
  (names.map λ (n,k)=>if (k == NameKind.free && env.scope.kind == .function && env.kindOf n == some .cell) then (n,NameKind.cell) else (n,k)).lookup x
   = (names.lookup x).map λ k=>if (k == NameKind.free && env.scope.kind == .function && env.kindOf x == some .cell) then NameKind.cell else k
 | []=>rfl
 | (n,k)::r=>by
  have ih:=@df env x r
  show List.lookup x ((if (k == NameKind.free && env.scope.kind == .function && env.kindOf n == some .cell)=true then (n,NameKind.cell) else (n,k))::_)=_
  cases hx:x == n with
  | true=>
   have e:x=n:=by simpa using hx
   subst e
   by_cases hc:(k == NameKind.free && env.scope.kind == .function && env.kindOf x == some .cell)=true
   ·rw [Kx hc];simp only [LN,Nd,LZ];rw [Kx hc]
   ·rw [Ks hc];simp only [LN,Nd,LZ];rw [Ks hc]
  | false=>
   by_cases hc:(k == NameKind.free && env.scope.kind == .function && env.kindOf n == some .cell)=true
   ·rw [Kx hc];simp only [LN,hx];exact ih
   ·rw [Ks hc];simp only [LN,hx];exact ih
abbrev cCx(X:Cx)(scope:Scope)(N':List Str)(C:Addr)(s₀:Shared)(H₀:Hp)(ex:List Addr)(pn:List (Addr × Obj)):Cx:=
 { X with N:=N',s₀:=s₀,H₀:=H₀,env:=compEnvC scope (lS X.env.cells scope.names []) C X.env,outer:=X.stack,stack:=X.stack,ex:=ex,fn:=λ _=>false,pn:=pn,xe:=λ _ _=>False }
def PTs(Y:Cx)(ifs:List Expr)(t:TT):Prop:=
 ∀ (pins:List (Addr × Obj)) (s:Shared) (σ:St) (H:Hp) (Q:Bool->Hp->Prop),Inv Y pins σ H s->t σ H Q →
  wpAny (model Y.prog Y.w) Y.A (forIn ifs true λ c r=>if r=true then do let ok ←isTrue c Y.env (eval c Y.env);pure (ForInStep.yield ok) else pure (ForInStep.yield r)) (TP Y pins σ Q) Y.xe s
def IS:TT:=λ _ H Q=>Q true H
theorem aH{Y:Cx}:PTs Y [] IS:=λ _ _ _ H _ I h=>Kv ⟨H,I,h⟩
theorem kf{Y:Cx}{c:Expr}{t:TT}(h:PT Y c t):PTs Y [c] t:=λ pins s σ H Q I hw=>PySem.wpAny_tests_one (h pins s σ H Q I hw)
theorem HOk.but{P:Program}{w:World}{H:Hp}{h h':Heap}{C:Addr}(ok:HOk P w H h)(hn:H C=none)(hs:Heap.SameBut C h h'):HOk P w H h':=λ b ob e=>by
 refine(ok b ob e).stay (λ c w' hc q=>(hs.2 c ?_).trans q) (λ _ q=>q) λ _ _ q=>q;rintro rfl
 rcases hc with rfl|hc
 ·rw [hn] at e;cases e
 ·rw [hn] at hc;cases hc
theorem Un.but{fs ex:List Addr}{H H':Hp}{h h1 h2:Heap}{C:Addr}(u:Un fs ex H H' h h1)(hs:Heap.SameBut C h1 h2)(hC:∀ b o,h.get? b=some o->b ≠ C):Un fs ex H H' h h2 where
 keep:=λ b o e n hb hx=>(hs.2 b (hC b o e)).trans (u.keep b o e n hb hx)
 slot:=λ b o e n hb hx=>by
  obtain⟨sl,q⟩:=u.slot b o e n hb hx;exact⟨sl,(hs.2 b (hC b o e)).trans q⟩
 free:=u.free
 there:=λ b o e hx=>by
  obtain⟨o',q⟩:=u.there b o e hx;exact⟨o',(hs.2 b (hC b o e)).trans q⟩
 tups:=u.tups
 frzs:=u.frzs
 tbls:=u.tbls
section
variable {X:Cx}
def Av(k:Nat)(wi:TI)(g:TG)(tt:TT)(te:TE):TE:=λ σ H Q=>wi σ H λ J H1=>∀ D,H1 D=none->∃ W:Nat->Nat->List V->Hp->Prop,(∃ m,W 0 m [] (upd H1 D (.lst [])))/\∀ i m ys H,W i m ys H →
 (J.stop i H/\Q (.ref D) H)\/(J.go i H/\∃ N:List V->Hp->Prop,(∀ ys' H',N ys' H'->∃ m',m' < m/\W (i+1) m' ys' H') /\
  ∀ x H',J.yld i H x H'->g x (List.replicate k none++σ) H' λ σ2 H2=>(∃ vs:St,vs.length=k/\σ2=vs++σ)/\tt σ2 H2 λ b H3=>if b=true then te σ2 H3 λ y H4=>H4 D=some (.lst ys)/\ys.length < sizeLine/\N (ys++[y]) (upd H4 D (.lst (ys++[y]))) else N ys H3)
theorem w9{Y:Cx}{tg elt iter:Expr}{ifs:List Expr}{scope:Scope}{pos:Pos}{it D:Addr}{g:TG}{tt:TT}{te:TE}{J:It}{fp:List Addr}{tn:Nat->Heap->Prop}{k:Nat}{σ:St}{Q:VK}
  (hc:Y.calm=true) (hx:Y.xe=λ _ _=>False) (hg:PG Y tg g) (ht:PTs Y ifs tt) (he:PE Y elt te) (T:zS Y.prog Y.w Y.K tg J fp it tn) (hf:∀ H:Hp,(∀ b∈fp,H b=none)->∀ b∈fp,nO Y [] H b)
  (W:Nat->Nat->List V->Hp->Prop)
  (turn:∀ i m ys H,W i m ys H->(J.stop i H/\Q (.ref D) H)\/(J.go i H/\∃ N:List V->Hp->Prop,(∀ ys' H',N ys' H'->∃ m',m' < m/\W (i+1) m' ys' H') /\
   ∀ x H',J.yld i H x H'->g x (List.replicate k none++σ) H' λ σ2 H2=>(∃ vs:St,vs.length=k/\σ2=vs++σ)/\tt σ2 H2 λ b H3=>if b=true then te σ2 H3 λ y H4=>H4 D=some (.lst ys)/\ys.length < sizeLine/\N (ys++[y]) (upd H4 D (.lst (ys++[y]))) else N ys H3))
  (n:Nat) (s:Shared) (h:∃ i ys H,Inv Y [] (List.replicate k none++σ) H s/\tn i s.heap/\(∀ b∈fp,H b=none)/\W i n ys H) :
  codeAny (model Y.prog Y.w) Y.A (.compLoop (.ListComp elt [⟨tg,iter,ifs,0⟩] scope pos) 0 (.ref it) (.ref D) Y.env) (λ r s'=>r=.ok .next/\∃ H',Inv Y [] (List.replicate k none++σ) H' s'/\Q (.ref D) H') s:=by
 refine codeAny_loop rfl (λ n s=>∃ i ys H,Inv Y [] (List.replicate k none++σ) H s/\tn i s.heap/\(∀ b∈fp,H b=none)/\W i n ys H) ?_ n h;rintro n s3 ⟨i,ys,H3,I3,st3,fr3,w3⟩
 show wpAny _ Y.A ((compTurn (.ListComp elt [⟨tg,iter,ifs,0⟩] scope pos) 0 (.ref it) (.ref D) Y.env).onRaise (λ x=>do noteFrame x Y.env;theTreesLotGoes x)) _ _ s3
 refine PySem.wpAny_noted ?_;rw [PySem.compTurn_list]
 have no:∀ {α:Type} {m:Sem α} {P:α->Shared->Prop} {E:Value->Shared->Prop} {s:Shared},wpAny (model Y.prog Y.w) Y.A m P Y.xe s->wpAny (model Y.prog Y.w) Y.A m P E s:=λ {α m P E s} h=>
  MH h (λ _ _ q=>q) λ _ _ q=>by rw [hx] at q;exact q.elim
 refine Kl (MN (Kl ?_))
 rcases turn i n ys H3 w3 with ⟨stop,qn⟩|⟨go,N,hN,step⟩
 ·refine thn (T.done Y rfl rfl rfl hc i [] s3 (List.replicate k none++σ) H3 _ I3 (hf H3 fr3) st3 stop) λ r s4 ⟨hr,I4⟩=>?_;subst hr;exact Kv ⟨rfl,H3,I4,qn⟩
 ·refine thn (T.item Y rfl rfl rfl hc i [] s3 (List.replicate k none++σ) H3 _ I3 (hf H3 fr3) st3 go) λ r s4 ⟨u,hr,h4⟩=>?_;subst hr;refine Kl (thn h4 λ _ s5 ⟨x,H5,I5,r5,y5,st5,fr5⟩=>?_);have I5':=I5.pinned (hf H5 fr5) (T.obj _ _ st5);refine Kl (no (thn (hg _ s5 (List.replicate k none++σ) H5 x u _ I5' r5 (step x H5 y5)) λ _ s6 ⟨σ6,H6,I6,⟨vs,hvs,e6⟩,q6⟩=>?_));subst e6
  have forget:∀ {pins:List (Addr × Obj)} {H:Hp} {s:Shared},Inv Y pins (vs++σ) H s->Inv Y pins (List.replicate k none++σ) H s:=λ {pins H s} I=>I.weak (by simp [hvs]) λ i v e=>by
   by_cases hi:i < k
   ·rw [Lc (by simpa using hi)] at e;simp [Mw,hi] at e
   ·rw [KR (by simpa using Nf hi)] at e;rw [KR (by omega)]
    simpa [hvs] using e
  refine Kl (no (thn (ht _ s6 (vs++σ) H6 _ I6 q6) λ b s7 ⟨H7,I7,q7⟩=>?_))
  have again:∀ {H8:Hp} {s8:Shared} {ys':List V},Inv Y ([]++l0 fp s5.heap) (vs++σ) H8 s8->N ys' H8->∃ m,m < n/\∃ i ys H,Inv Y [] (List.replicate k none++σ) H s8/\tn i s8.heap/\(∀ b∈fp,H b=none)/\W i m ys H:=λ {H8 s8 ys'} I8 n8=>by
   obtain⟨m',hm,w8⟩:=hN ys' H8 n8;refine⟨m',hm,i+1,ys',H8,forget I8.unpinned,T.keep _ _ _ st5 λ b hb o e=>(I8.pin (b,o) (KU _ (KU _ (eL hb e)))).1,λ b hb=>?_,w8⟩;obtain⟨o,e,d⟩:=T.obj _ _ st5 b hb;exact(I8.pin (b,o) (KU _ (KU _ (eL hb e)))).2.1
  cases b with
  | false=>
   rw [Ks Kw] at q7;exact Kv ⟨rfl,again I7 q7⟩
  | true=>
   rw [Kx rfl] at q7;refine Kl (Kl (no (thn (he _ s7 (vs++σ) H7 _ I7 q7) λ y s8 ⟨y',H8,I8,ry,q8,l8,n8⟩=>?_)));exact Kl (no (thn (fK _ s8 (vs++σ) H8 (.ref D) [y'] (.ref D) [y] (λ _ H'=>N (ys++[y']) H') I8 rfl (.cons ry .nil) ⟨D,ys,y',rfl,rfl,q8,l8,n8⟩) λ _ s9 ⟨_,H9,I9,_,q9⟩=>Kv (Kv ⟨rfl,again I9 q9⟩)))
structure ik(X:Cx)(scope:Scope)(N':List Str)(k:Nat):Prop where
 cell:∀ y∈scope.names,y.2 ≠ .cell
 kind:scope.kind=.function
 names:∀ y∈scope.names,y.2=.local->scope.names.lookup y.1=some .local
 free:∀ y∈scope.names,y.2=.free->X.env.scope.names.lookup y.1=some .cell
 len:N'.length=k+X.N.length
 sub:∀ i x,N'[k+i]? = some x->scope.names.lookup x=some .free->X.N[i]? = some x
 loc:∀ i x,N'[k+i]? = some x->scope.names.lookup x ≠ some .local
theorem ik.cells{scope:Scope}{N':List Str}{k:Nat}{pins:List (Addr × Obj)}{σ:St}{H:Hp}{s:Shared}(c:ik X scope N' k)(I:Inv X pins σ H s):∀ y∈scope.names,y.2=.free->∃ a,X.env.cells.lookup y.1=some a:=λ y hy e=>
 I.ok.has y.1 (.inl (c.free y hy e))
theorem y6{scope:Scope}{N':List Str}{k:Nat}{pins:List (Addr × Obj)}{σ:St}{H:Hp}{s s₄:Shared}{fp:List Addr}{m:Str->Option Value}(c:ik X scope N' k)(hc:X.calm=true)(I:Inv X pins σ H s)
  (hf:∀ b∈fp,nO X pins H b) (hfl:∀ b∈fp,b < s.heap.objs.size) (hb:∀ b∈fp,X.base.get? b=none) (hns:s₄.heap.Ns s.heap.objs.size m) (hk:∀ b o,s.heap.get? b=some o->s₄.heap.get? b=some o) (ho:s₄.os=s.os) (hg:s₄.gens=s.gens) :
  Inv (cCx X scope N' s.heap.objs.size s H fp (X.pn++pins)) [] (List.replicate k none++σ) H s₄:=by
 have hcl:=c.cells I
 have sub:∀ x a,(lS X.env.cells scope.names []).lookup x=some a->X.env.cells.lookup x=some a:=λ x a e=>by
  rcases lq hcl e with q|q
  ·simp at q
  ·exact q
 have kinds:∀ x,(compEnvC scope (lS X.env.cells scope.names []) s.heap.objs.size X.env).kindOf x=some .cell\/(compEnvC scope (lS X.env.cells scope.names []) s.heap.objs.size X.env).kindOf x=some .free->scope.names.lookup x=some .free:=λ x hx=>by
  have e:(compEnvC scope (lS X.env.cells scope.names []) s.heap.objs.size X.env).kindOf x=(scope.names.lookup x).map λ k=>if (k == NameKind.free && X.env.scope.kind == .function && X.env.kindOf x == some .cell) then NameKind.cell else k:=df
  rw [e] at hx
  cases q:scope.names.lookup x with
  | none=>rw [q] at hx;simp at hx
  | some j=>
   rw [q] at hx;have hj:j ≠ .cell:=c.cell (x,j) (eM q)
   cases j<;>simp_all
 have fresh:∀ b,s.heap.objs.size<=b->s.heap.get? b=none:=λ b hb=>Heap.get?_none_of_le hb;have ne:∀ b o,s.heap.get? b=some o->b ≠ s.heap.objs.size:=λ b o e=>KL (Kt e)
 have cl_lt:∀ x a,X.env.cells.lookup x=some a->a < s.heap.objs.size:=λ x a e=>by
  obtain⟨v,o,h1,_⟩:=I.cell x a e;exact Kt h1
 refine⟨⟨I.ok.mod,c.kind,I.ok.glob,I.ok.blt,Kq _,λ x y a e1 e2=>I.ok.inj x y a (sub x a e1) (sub y a e2),λ x hx=>gW hcl (kinds x hx),(λ _ _ z=>nomatch z),I.ok.hd,I.ok.frames,.inl rfl,λ b hb'=>⟨KL (hfl b hb'),λ x a e=>(hf b hb').2.2.2.2.1 x a (sub x a e)⟩,
   I.bs,Le I.ok.bsz I.sz,(λ b o e hb'=>by rw [hb b hb'] at e;cases e),λ b hb' hz=>?_,I.stack,I.stkFree⟩,ho,by rw [hg];exact I.bare,Un.kept hk,⟨m,hns,λ i x v e1 e2 e3=>?_⟩,λ x a e=>?_,I.hok.fresh (Kq _),λ x a e=>I.freeC x a (sub x a e),λ p hp=>?_,I.hok.kept hk,?_⟩
 ·rcases KS.mp (I.stkSub b hz) with z|z
  ·exact(hf b hb').2.1 z
  ·exact(hf b hb').2.2.1 z
 ·have hi:k<=i:=by
   refine Nf λ hi=>?_;rw [Lc (by simpa using hi)] at e2;simp [Mw,hi] at e2
  obtain⟨j,rfl⟩:∃ j,i=k+j:=⟨i - k,by omega⟩;rw [KR (by simp)] at e2;have e2':σ[j]? = some (some v):=by simpa using e2
  have e:(relabel scope X.env).names.lookup x=(scope.names.lookup x).map λ k=>if (k == NameKind.free && X.env.scope.kind == .function && X.env.kindOf x == some .cell) then NameKind.cell else k:=df
  have hfree:scope.names.lookup x=some .free:=by
   cases q:scope.names.lookup x with
   | none=>
    rcases e3 with z|z|z
    all_goals (have z':(relabel scope X.env).names.lookup x=some _:=z;rw [e,q] at z';simp at z')
   | some j'=>
    have h1:j' ≠ .cell:=c.cell (x,j') (eM q);have h2:j' ≠ .local:=λ z=>c.loc j x e1 (by rw [q,z])
    rcases e3 with z|z|z
    all_goals (have z':(relabel scope X.env).names.lookup x=some _:=z;rw [e,q] at z';cases j'<;>simp_all)
  have hX:=c.sub j x e1 hfree;have hcellX:=c.free (x,.free) (eM hfree) rfl;obtain⟨m0,hn0,hl0⟩:=I.loc;obtain⟨u,r,l⟩:=hl0 j x v hX e2' (.inr (.inl hcellX));refine⟨u,r,?_⟩
  rcases l with ⟨z,_⟩|⟨_,a,ea,hz⟩
  ·have z':X.env.scope.names.lookup x=some .local:=z;rw [hcellX] at z';cases z'
  ·obtain⟨a',ea'⟩:=gW (acc:=[]) hcl hfree;have e4:=sub x a' ea';rw [ea] at e4;cases e4;refine .inr ⟨.inl ?_,a,ea',?_⟩
   ·show (relabel scope X.env).names.lookup x=some .cell
    rw [e,hfree];have k1:(X.env.scope.kind == .function)=true:=by rw [I.ok.kind];rfl
    have k2:(X.env.kindOf x == some .cell)=true:=by
     have:X.env.kindOf x=some .cell:=hcellX;rw [this];rfl
    simp [k1,k2]
   ·obtain⟨o,h1,h2⟩:=hz;exact⟨o,hk _ _ h1,h2⟩
 ·obtain⟨v,o,h1,h2⟩:=I.cell x a (sub x a e);exact⟨v,o,hk _ _ h1,h2⟩
 ·have hp':p∈X.pn++pins:=by simpa using hp
  obtain⟨e,n,nl,nf,d⟩:=I.pin p hp';refine⟨hk _ _ e,n,ne _ _ e,λ z=>?_,d⟩
  rcases KS.mp (I.stkSub _ z) with z|z
  ·exact nl z
  ·exact nf z
 ·show (List.replicate k none++σ).length=N'.length
  rw [c.len,Ku,List.length_replicate,I.len]
theorem jJ{elt iter tg:Expr}{ifs:List Expr}{scope:Scope}{pos:Pos}{g:TG}{tt:TT}{te:TE}{N':List Str}{k:Nat}{it:Addr}{J:It}{fp:List Addr}{tn:Nat->Heap->Prop}{pins:List (Addr × Obj)}{σ:St}{H:Hp}{s:Shared}{Q:VK}{RR:Value->Addr->Result->Shared->Prop}{E:Value->Shared->Prop}
  (c:ik X scope N' k) (hc:X.calm=true) (I:Inv X pins σ H s) (T:zS X.prog X.w X.K tg J fp it tn) (st:tn 0 s.heap) (hf:∀ b∈fp,nO X pins H b)
  (hg:∀ C s₀ H₀ ex pn,PG (cCx X scope N' C s₀ H₀ ex pn) tg g) (ht:∀ C s₀ H₀ ex pn,PTs (cCx X scope N' C s₀ H₀ ex pn) ifs tt) (he:∀ C s₀ H₀ ex pn,PE (cCx X scope N' C s₀ H₀ ex pn) elt te)
  (h:∀ D,H D=none->∃ W:Nat->Nat->List V->Hp->Prop,(∃ m,W 0 m [] (upd H D (.lst [])))/\∀ i m ys H,W i m ys H →
   (J.stop i H/\Q (.ref D) H)\/(J.go i H/\∃ N:List V->Hp->Prop,(∀ ys' H',N ys' H'->∃ m',m' < m/\W (i+1) m' ys' H') /\
    ∀ x H',J.yld i H x H'->g x (List.replicate k none++σ) H' λ σ2 H2=>(∃ vs:St,vs.length=k/\σ2=vs++σ)/\tt σ2 H2 λ b H3=>if b=true then te σ2 H3 λ y H4=>H4 D=some (.lst ys)/\ys.length < sizeLine/\N (ys++[y]) (upd H4 D (.lst (ys++[y]))) else N ys H3))
  (fin:∀ D C s' H' m,s'.heap.Ns C m->C ≠ X.env.locals->(∀ x a,X.env.cells.lookup x=some a->a ≠ C)->(H' C=none/\X.s₀.heap.objs.size<=C/\∀ p∈X.pn++pins,p.1 ≠ C)->(∀ h',Heap.SameBut C s'.heap h'->Inv X pins σ H' { s' with heap:=h' })->Q (.ref D) H'->RR (.ref D) C (.ok .next) s') :
  wpAny (model X.prog X.w) X.A (newList []) (λ acc s₃=>wpAny (model X.prog X.w) X.A (newFunctionEnv scope X.env.globals (lS X.env.cells scope.names []) [] X.env.qual none .none (some X.env)) (λ cenv s₄=>
   codeAny (model X.prog X.w) X.A (.compStart (.ListComp elt [⟨tg,iter,ifs,0⟩] scope pos) 0 (.ref it) acc { cenv with scope:=relabel scope X.env }) (RR acc cenv.locals) s₄) E s₃) E s:=by
 refine wpAny_newObj_type (wpAny_newFunctionEnv c.cell (by intro y hy;simp at hy) (λ h₁ hns₁ hsb₁=>?_) c.kind);dsimp only at hns₁ hsb₁ ⊢;have I3:Inv X pins σ (upd H s.heap.objs.size (.lst [])) { s with heap:=s.heap.push { cls:=.type "list",data:=.seq ([]:List Value).toArray },toks:=s.toks }:=I.lnew (ys:=[]) (its:=[]) .nil (Nat.zero_le _);generalize hH2:s.heap.push { cls:=.type "list",dict:=none,data:=.seq ([]:List Value).toArray }=hp at hns₁ hsb₁ I3 ⊢;have hlt:∀ b o,s.heap.get? b=some o->hp.get? b=some o:=λ b o e=>by rw [←hH2];exact Heap.get?_push_of_some _ e
 have hnD:H s.heap.objs.size=none:=I.hok.fresh (Kq _);have kp:∀ b o,hp.get? b=some o->h₁.get? b=some o:=λ b o e=>hsb₁.extBut b o (KL (Kt e)) (Kn _ e)
 have stk:∀ b∈fp,s.heap.get? b ≠ none:=λ b hb z=>by
  obtain⟨o,e,_⟩:=T.obj _ _ st b hb;rw [z] at e;cases e
 have flt:∀ b∈fp,b < s.heap.objs.size:=λ b hb=>by
  obtain⟨o,e,_⟩:=T.obj _ _ st b hb;exact Kt e
 have fpD:∀ b∈fp,b ≠ s.heap.objs.size:=λ b hb=>KL (flt b hb)
 have hf3:∀ b∈fp,nO X pins (upd H s.heap.objs.size (.lst [])) b:=λ b hb=>by
  obtain⟨a1,a2⟩:=hf b hb;exact⟨by rw [ak (fpD b hb)];exact a1,a2⟩
 have hnb:∀ b∈fp,X.base.get? b=none:=λ b hb=>by
  cases e:X.base.get? b with
  | none=>rfl
  | some o=>
   rcases (hf b hb).2.2.2.1 with z|z
   ·exact absurd z (I.ok.noex b o e)
   ·have:=Kt (I.ok.bs b o e).1;exact absurd (KC this z) (LI _)
 have hsz:s.heap.objs.size < hp.objs.size:=by rw [←hH2,Lr];exact LR _
 have IY:=y6 (s₄:={ s with heap:=h₁,toks:=s.toks+([]:List (Str × Value)).length }) (fp:=fp) c hc I3 hf3 (λ b hb=>Mh (flt b hb) hsz) hnb hns₁ kp rfl rfl;obtain⟨W,⟨m0,w0⟩,turn⟩:=h s.heap.objs.size hnD
 have run:=w9 (Y:=cCx X scope N' hp.objs.size { s with heap:=hp,toks:=s.toks } (upd H s.heap.objs.size (.lst [])) fp (X.pn++pins)) (tg:=tg) (elt:=elt) (iter:=iter) (ifs:=ifs) (scope:=scope) (pos:=pos) (it:=it) (D:=s.heap.objs.size) (k:=k) (σ:=σ) (Q:=Q)
  hc rfl (hg _ _ _ _ _) (ht _ _ _ _ _) (he _ _ _ _ _) T (λ H' hn b hb=>⟨hn b hb,KL (Mh (flt b hb) hsz),λ z=>(IY.ok.exfs b hb) z,.inl hb,λ x a e=>(IY.ok.exf b hb).2 x a e,λ p hp=>by
   have hp':p∈X.pn++pins:=by simpa using hp
   exact(hf b hb).2.2.2.2.2 p hp'⟩) W turn m0
 have st₁:tn 0 h₁:=T.keep _ _ _ st λ b hb o e=>kp b o (hlt b o e);have go:=run { s with heap:=h₁,toks:=s.toks+([]:List (Str × Value)).length } ⟨0,[],_,IY,st₁,λ b hb=>(hf3 b hb).1,w0⟩
 have out:∀ r s',(r=Except.ok Flow.next/\∃ H',Inv (cCx X scope N' hp.objs.size { s with heap:=hp,toks:=s.toks } (upd H s.heap.objs.size (.lst [])) fp (X.pn++pins)) [] (List.replicate k none++σ) H' s'/\Q (.ref s.heap.objs.size) H')->RR (.ref s.heap.objs.size) hp.objs.size r s':=by
  rintro r s' ⟨rfl,H',J',q⟩;obtain⟨m,hn,_⟩:=J'.loc;have hC:hp.objs.size ≠ X.env.locals:=ML (KC I.lt (Mi hsz));refine fin _ _ s' H' m hn hC (λ x a e=>?_) ⟨J'.free,Le I.sz (Mi hsz),λ p hp'=>KL (Mh (Kt (I.pin p hp').1) hsz)⟩ (λ h' hs'=>?_) q
  ·obtain⟨v,o,h1,_⟩:=I.cell x a e;exact KL (Mh (Kt h1) hsz)
  ·refine I.call' (ch:=fp) ?_ ?_ ?_ J'.bare λ b hb=>⟨(hf b hb).2.2.2.1,(hf b hb).2.1,(hf b hb).2.2.2.2.1,(hf b hb).2.2.2.2.2⟩
   ·exact J'.os
   ·have u1:Un (frs X.stack) fp H (upd H s.heap.objs.size (.lst [])) s.heap hp:=Un.laid hlt (Kq _) hnD;exact(u1.trans J'.base).but hs' λ b o e=>KL (Mh (Kt e) hsz)
   ·exact J'.hok.but J'.free hs'
 exact codeAny_compStart_list (Mz go out) (T.self _ 0 _ _ _ st₁ (Mz go out))
theorem Bt{elt iter tg:Expr}{ifs:List Expr}{scope:Scope}{pos:Pos}{wi:TI}{g:TG}{tt:TT}{te:TE}{N':List Str}{k:Nat}
  (c:ik X scope N' k) (hc:X.calm=true) (hi:PI X tg iter wi)
  (hg:∀ C s₀ H₀ ex pn,PG (cCx X scope N' C s₀ H₀ ex pn) tg g) (ht:∀ C s₀ H₀ ex pn,PTs (cCx X scope N' C s₀ H₀ ex pn) ifs tt) (he:∀ C s₀ H₀ ex pn,PE (cCx X scope N' C s₀ H₀ ex pn) elt te)
  (hs:∀ x,foldedSetIterable iter X.env x=pure x:=by intro _;rfl):PE X (.ListComp elt [⟨tg,iter,ifs,0⟩] scope pos) (Av k wi g tt te):=by
 intro pins s σ H Q I h;rw [PySem.eval_ListComp];refine Na (use:=none) rfl hs (fR (c.cells I)) c.kind c.names (thn (hi pins s σ H _ I h) λ v s1 h1=>thn h1 λ itv s2 h2=>?_);obtain⟨it,fp,tn,J,H2,rfl,I2,T,st2,f2,hW⟩:=h2;refine jJ (RR:=λ acc C=>PySem.compPost (model X.prog X.w) X.A X.xe none (EP X pins σ Q) acc C) c hc I2 T st2 f2 hg ht he hW ?_;intro D C s' H' m hn _ _ _ hI q;exact⟨m,hn,λ h' hs'=>⟨.ref D,H',hI h' hs',rfl,q⟩⟩
def DA(i:Nat)(te:TE):TS:=λ D σ H=>te σ H λ x H1=>D.nx (σ.set i (some x)) H1
theorem Bk{elt iter tg:Expr}{ifs:List Expr}{scope:Scope}{pos spos py:Pos}{wi:TI}{g:TG}{tt:TT}{te:TE}{N':List Str}{k i:Nat}{y:Str}
  (hN:X.N.Nodup) (hi':X.N[i]? = some y) (hy:Loc X.env.scope y)
  (c:ik X scope N' k) (hc:X.calm=true) (hi:PI X tg iter wi)
  (hg:∀ C s₀ H₀ ex pn,PG (cCx X scope N' C s₀ H₀ ex pn) tg g) (ht:∀ C s₀ H₀ ex pn,PTs (cCx X scope N' C s₀ H₀ ex pn) ifs tt) (he:∀ C s₀ H₀ ex pn,PE (cCx X scope N' C s₀ H₀ ex pn) elt te)
  (hsw:swapsWith (.ListComp elt [⟨tg,iter,ifs,0⟩] scope pos) (some (.Name y py)) spos.line X.env=pure true:=by rfl)
  (hs:∀ x,foldedSetIterable iter X.env x=pure x:=by intro _;rfl) (hf:X.fn y=true\/X.env.scope.names.lookup y=some .local:=by first|exact .inl rfl|exact .inr rfl|assumption) :
  PS X (.Assign [.Name y py] (.ListComp elt [⟨tg,iter,ifs,0⟩] scope pos) spos) (DA i (Av k wi g tt te)):=by
 intro pins s σ H D I h;rw [PySem.exec_Assign_Name_used _ _ _ _ hsw];refine Kl (MN (Kl ?_))
 show wpAny _ X.A (do let _ ←comprehension (.ListComp elt [⟨tg,iter,ifs,0⟩] scope pos) scope X.env _ (newList []) false (eval iter X.env) (some (assign (.Name y py) X.env))) _ _ s
 refine Kl (thn (Na (use:=some (assign (.Name y py) X.env)) (Q:=λ _ s'=>SP X pins D .next s') rfl hs (fR (c.cells I)) c.kind c.names (thn (hi pins s σ H _ I h) λ v s1 h1=>thn h1 λ itv s2 h2=>?_)) λ _ s' hq=>Kv (Kv hq));obtain⟨it,fp,tn,J,H2,rfl,I2,T,st2,f2,hW⟩:=h2;refine jJ (Q:=λ x H1=>D.nx (σ.set i (some x)) H1) (RR:=λ acc C=>PySem.compPost (model X.prog X.w) X.A X.xe (some (assign (.Name y py) X.env)) (λ _ s'=>SP X pins D .next s') acc C) c hc I2 T st2 f2 hg ht he hW ?_;intro D' C s' H' m hn hCl hCc hCo hI q
 show wpAny _ X.A (assign (.Name y py) X.env (.ref D')) _ _ s'
 have I':Inv X pins σ H' s':=hI s'.heap (Heap.SameBut.refl _ _);refine wpAny_assign_Name (ml I' hN hi' hy (show bo (.ref D') (.ref D') from rfl) (λ s'' I'' ⟨a,sb,ha⟩=>?_) hf)
 have hCa:C ≠ a:=by
  rcases ha with rfl|ha
  ·exact hCl
  ·exact λ z=>hCc _ _ ha z.symm
 refine⟨m,hn.sameBut sb hCa,λ h' hs'=>⟨_,H',?_,q⟩⟩;exact I''.turned (t':=s''.toks) (λ b o hb e=>(hs'.2 b hb).trans e) hCo.1 hCl (.inr hCo.2.1) hCc hCo.2.2
end
section
variable {M:Model}{A:Around}{E:Value->Shared->Prop}{s:Shared}
end
section
variable {X:Cx}
set_option genInjectivity false in
end
structure GP(K:W.Frag)(x qual:Str)(st:Stmt)(f:Addr)(fd:FuncData):Prop where
 ex:∃ (oc:Value) (od:Option Addr) (dV kV doc pm:Value) (an:Option Addr) (cdv ct:Value) (osl:Array (Option Value)),
  fd=W.fnOf x qual (cZ st) (cn st) (aa st) dV kV doc pm an cdv ct/\K.lookup f=some ⟨oc,od,.func fd,osl⟩/\W.codeIn K cdv qual=true
 kp:W.keepIn K (.ref f)=true
section
variable {P:Program}{w:World}{K:PySem.W.Frag}{mg:Str->Option Value}{base:Heap}
theorem GP.ok{CX:CXT}{x qual:Str}{st:Stmt}{f:Addr}{fd:FuncData}{N ps:List Str}{k:Nat}{sp:Sp}(F:GP K x qual st f fd)(S:ah N ps (aa st))(len:∀ vs H Q E,sp vs H Q E->vs.length=ps.length)
  (hbody:∀ (cdv:Value) (A:Around) (outer:List Env) (s:Shared) (H:Hp) (vs:List V) (Q:VK) (E:XK),gM k (A.deeper (envOfC qual (aa st) s.heap.objs.size f cdv))->sp vs H Q E →
   ∃ t,PSs (zR CX P w K mg base N qual (aa st) f cdv A outer s H E) (cn st) t/\t { nx:=λ _ H'=>Q .non H',rt:=Q } (start N vs) H):bq P w K mg base CX (k+1) f fd ps sp:=by
 obtain⟨oc,od,dV,kV,doc,pm,an,cdv,ct,osl,rfl,lk,hcd⟩:=F.ex;exact D8 lk hcd S len λ A outer s H vs Q E hr hsp=>hbody cdv A outer s H vs Q E hr hsp
theorem C6{x qual:Str}{st:Stmt}{f:Addr}{oc:Value}{od an:Option Addr}{osl:Array (Option Value)}{dV kV doc pm cdv ct:Value}(l:K.lookup f=some ⟨oc,od,.func (W.fnOf x qual (cZ st) (cn st) (aa st) dV kV doc pm an cdv ct),osl⟩)
  (c:W.codeIn K cdv qual=true) (k:W.keepIn K (.ref f)=true):GP K x qual st f (W.fnOf x qual (cZ st) (cn st) (aa st) dV kV doc pm an cdv ct):=⟨⟨oc,od,dV,kV,doc,pm,an,cdv,ct,osl,rfl,l,c⟩,k⟩
end
open PySem.W
section
variable {prog:Program}{w:World}{A:Around}{E:Value->Shared->Prop}{s:Shared}{K:PySem.W.Frag}{x C:Addr}{ox:Obj}{od:Option Obj}{name:Str}
end
section
variable {X:Cx}
end
section
variable {prog:Program}{w:World}{A:Around}{R:Result->Shared->Prop}{h:Heap}{g:Array GenState}{d:Drawn}{t:Nat}{os:OsState}{K:Frag}
variable {nm q:Str}{C N fI:Addr}{bs bm bmB:List Value}{hdct:Bool}{sn:List Str}{sub:List Value}{ab:Bool}{col:Option Bool}{dd:Option Addr}{k0 k1 k2 k3 k5:Option Value}{B Bn newId nid initId inN:String}{bmN:List Value}
end
section
variable {prog:Program}{w:World}{A:Around}{E:Value->Shared->Prop}{K:Frag}{x C:Addr}{s:Shared}{name:Str}{v:Value}
end
section
variable {prog:Program}{w:World}{A:Around}{E:Value->Shared->Prop}{s:Shared}{K:PySem.W.Frag}{x C dx:Addr}{ox:Obj}{od:Option Obj}{name:Str}{mA:Str->Option Value}{u:Value}
end
section
variable {prog:Program}{w:World}{A:Around}{E:Value->Shared->Prop}{h:Heap}{g:Array GenState}{d:Drawn}{t:Nat}{os:OsState}{e a0:Addr}{dct:Option Addr}
variable {nm q:Str}{C N:Addr}{bs bm bmB:List Value}{hdct:Bool}{sn:List Str}{sub:List Value}{ab:Bool}{col:Option Bool}{dd:Option Addr}{k0 k1 k2 k3 k5:Option Value}{B newId nid initId:String}
end
section
variable {X:Cx}{pins:List (Addr × Obj)}{σ:St}{H:Hp}{s:Shared}
end
section
variable {X:Cx}{e o value:Expr}{ta tv:TE}{f:Str}{pos pos':Pos}
end
def del(H:Hp)(e:Addr):Hp:=λ b=>if b=e then none else H b
section
variable {X:Cx}
end
theorem CZ{a:Option V}{v:V}{σ:St}{H:Hp}{Q:St->Hp->Prop}:dh 0 v (a::σ) H Q=Q (some v::σ) H:=rfl
theorem CY{a0:Option V}{a:Option V}{v:V}{σ:St}{H:Hp}{Q:St->Hp->Prop}:dh 1 v (a0::a::σ) H Q=Q (a0::some v::σ) H:=rfl
theorem CW{a0 a1:Option V}{a:Option V}{v:V}{σ:St}{H:Hp}{Q:St->Hp->Prop}:dh 2 v (a0::a1::a::σ) H Q=Q (a0::a1::some v::σ) H:=rfl
theorem CV{a0 a1 a2:Option V}{a:Option V}{v:V}{σ:St}{H:Hp}{Q:St->Hp->Prop}:dh 3 v (a0::a1::a2::a::σ) H Q=Q (a0::a1::a2::some v::σ) H:=rfl
theorem CU{a0 a1 a2 a3:Option V}{a:Option V}{v:V}{σ:St}{H:Hp}{Q:St->Hp->Prop}:dh 4 v (a0::a1::a2::a3::a::σ) H Q=Q (a0::a1::a2::a3::some v::σ) H:=rfl
theorem CT{a0 a1 a2 a3 a4:Option V}{a:Option V}{v:V}{σ:St}{H:Hp}{Q:St->Hp->Prop}:dh 5 v (a0::a1::a2::a3::a4::a::σ) H Q=Q (a0::a1::a2::a3::a4::some v::σ) H:=rfl
theorem CS{a0 a1 a2 a3 a4 a5:Option V}{a:Option V}{v:V}{σ:St}{H:Hp}{Q:St->Hp->Prop}:dh 6 v (a0::a1::a2::a3::a4::a5::a::σ) H Q=Q (a0::a1::a2::a3::a4::a5::some v::σ) H:=rfl
theorem CQ{a0 a1 a2 a3 a4 a5 a6:Option V}{a:Option V}{v:V}{σ:St}{H:Hp}{Q:St->Hp->Prop}:dh 7 v (a0::a1::a2::a3::a4::a5::a6::a::σ) H Q=Q (a0::a1::a2::a3::a4::a5::a6::some v::σ) H:=rfl
theorem CP{a0 a1 a2 a3 a4 a5 a6 a7:Option V}{a:Option V}{v:V}{σ:St}{H:Hp}{Q:St->Hp->Prop}:dh 8 v (a0::a1::a2::a3::a4::a5::a6::a7::a::σ) H Q=Q (a0::a1::a2::a3::a4::a5::a6::a7::some v::σ) H:=rfl
theorem CO{a0 a1 a2 a3 a4 a5 a6 a7 a8:Option V}{a:Option V}{v:V}{σ:St}{H:Hp}{Q:St->Hp->Prop}:dh 9 v (a0::a1::a2::a3::a4::a5::a6::a7::a8::a::σ) H Q=Q (a0::a1::a2::a3::a4::a5::a6::a7::a8::some v::σ) H:=rfl
theorem zh{a0 a1 a2 a3 a4 a5 a6 a7 a8 a9:Option V}{a:Option V}{v:V}{σ:St}{H:Hp}{Q:St->Hp->Prop}:dh 10 v (a0::a1::a2::a3::a4::a5::a6::a7::a8::a9::a::σ) H Q=Q (a0::a1::a2::a3::a4::a5::a6::a7::a8::a9::some v::σ) H:=rfl
theorem zd{a0 a1 a2 a3 a4 a5 a6 a7 a8 a9 a10:Option V}{a:Option V}{v:V}{σ:St}{H:Hp}{Q:St->Hp->Prop}:dh 11 v (a0::a1::a2::a3::a4::a5::a6::a7::a8::a9::a10::a::σ) H Q=Q (a0::a1::a2::a3::a4::a5::a6::a7::a8::a9::a10::some v::σ) H:=rfl
theorem zc{a0 a1 a2 a3 a4 a5 a6 a7 a8 a9 a10 a11:Option V}{a:Option V}{v:V}{σ:St}{H:Hp}{Q:St->Hp->Prop}:dh 12 v (a0::a1::a2::a3::a4::a5::a6::a7::a8::a9::a10::a11::a::σ) H Q=Q (a0::a1::a2::a3::a4::a5::a6::a7::a8::a9::a10::a11::some v::σ) H:=rfl
theorem zb{a0 a1 a2 a3 a4 a5 a6 a7 a8 a9 a10 a11 a12:Option V}{a:Option V}{v:V}{σ:St}{H:Hp}{Q:St->Hp->Prop}:dh 13 v (a0::a1::a2::a3::a4::a5::a6::a7::a8::a9::a10::a11::a12::a::σ) H Q=Q (a0::a1::a2::a3::a4::a5::a6::a7::a8::a9::a10::a11::a12::some v::σ) H:=rfl
def aS{α:Type}:Option α->(α->Prop)->Prop
 | some x,k=>k x
 | none,_=>False
theorem mr{α:Type}(x:α)(k:α->Prop):aS (some x) k=k x:=rfl
theorem av{α:Type}{o:Option α}{k:α->Prop}(h:aS o k):∃ x,o=some x/\k x:=by
 cases o with
 | none=>exact h.elim
 | some x=>exact⟨x,rfl,h⟩
def GF:HO->Option (List V)
 | .lst xs=>some xs
 | .tup xs=>some xs
 | .frz _ (.lst xs)=>some xs
 | _=>none
def Hc:HO->Option (List V)
 | .lst xs=>some xs
 | _=>none
def GU:HO->Option (List V)
 | .tup xs=>some xs
 | _=>none
def ck(H:Hp)(p:Addr):Option (List V):=(H p).bind GF
def aO(H:Hp)(p:Addr):Option (List V):=(H p).bind Hc
def g9(H:Hp)(p:Addr):Option (List V):=(H p).bind GU
theorem xX(xs:List V):GF (.lst xs)=some xs:=rfl
theorem xW(xs:List V):GF (.tup xs)=some xs:=rfl
theorem yD(xs:List V):Hc (.lst xs)=some xs:=rfl
theorem xU(xs:List V):GU (.tup xs)=some xs:=rfl
theorem sP{α β:Type}(x:α)(f:α->Option β):(some x).bind f=f x:=rfl
abbrev Ext(H H':Hp):Prop:=(∀ a,(H a).isSome=true->H' a=H a)/\∀ (K:PySem.W.Frag) a xs,SqL K H a xs->SqL K H' a xs
def GI(r:R2)(x:V)(Q:VK):VK:=λ y H=>r x y H Q
theorem Ag(r:R2)(x y:V)(H:Hp)(Q:VK):(GI r x Q y H)=(r x y H Q):=rfl
def kOp(r:R2)(tb:TE)(σ:St)(Q:VK):VK:=λ x H=>tb σ H (GI r x Q)
theorem Ir(r:R2)(tb:TE)(σ:St)(Q:VK)(x:V)(H:Hp):(kOp r tb σ Q x H)=(tb σ H (GI r x Q)):=rfl
theorem HY(r:R2)(ta tb:TE)(σ:St)(H:Hp)(Q:VK):(tOp r ta tb σ H Q)=(ta σ H (kOp r tb σ Q)):=rfl
theorem J4(v:V)(σ:St)(H:Hp)(Q:VK):(tC v σ H Q)=(Q v H):=rfl
def kUn(r:V->Hp->VK->Prop)(Q:VK):VK:=λ x H=>r x H Q
theorem Il(r:V->Hp->VK->Prop)(Q:VK)(x:V)(H:Hp):(kUn r Q x H)=(r x H Q):=rfl
theorem HV(r:V->Hp->VK->Prop)(ta:TE)(σ:St)(H:Hp)(Q:VK):(tUn r ta σ H Q)=(ta σ H (kUn r Q)):=rfl
def GW:R2:=λ x y H Q=>y=.non/\Q (.bl (decide (x=.non))) H
def AA:R2:=λ x y H Q=>y=.non/\Q (.bl (!decide (x=.non))) H
theorem rG(H:Hp)(Q:VK):GW (.non) .non H Q=Q (.bl true) H:=propext ⟨λ h=>h.2,λ h=>⟨rfl,h⟩⟩
theorem oY(H:Hp)(Q:VK):AA (.non) .non H Q=Q (.bl false) H:=propext ⟨λ h=>h.2,λ h=>⟨rfl,h⟩⟩
theorem rF(i:Addr)(H:Hp)(Q:VK):GW (.ref i) .non H Q=Q (.bl false) H:=propext ⟨λ h=>h.2,λ h=>⟨rfl,h⟩⟩
theorem oX(i:Addr)(H:Hp)(Q:VK):AA (.ref i) .non H Q=Q (.bl true) H:=propext ⟨λ h=>h.2,λ h=>⟨rfl,h⟩⟩
def DW(Q:Bool->Hp->Prop):VK:=λ x H=>∃ k,x=.bl k/\Q k H
def Js(Q:Bool->Hp->Prop):Bool->Hp->Prop:=λ c H=>Q (!c) H
theorem Fz(Q:Bool->Hp->Prop)(c:Bool)(H:Hp):(Js Q c H)=(Q (!c) H):=rfl
theorem E2(t:TT)(σ:St)(H:Hp)(Q:Bool->Hp->Prop):(IX t σ H Q)=(t σ H (Js Q)):=rfl
def JC(u:TT)(σ:St)(Q:Bool->Hp->Prop):Bool->Hp->Prop:=λ c H=>if c=true then u σ H Q else Q false H
theorem Gd(u:TT)(σ:St)(Q:Bool->Hp->Prop)(c:Bool)(H:Hp):(JC u σ Q c H)=(if c=true then u σ H Q else Q false H):=rfl
theorem E9(t u:TT)(σ:St)(H:Hp)(Q:Bool->Hp->Prop):(Jb t u σ H Q)=(t σ H (JC u σ Q)):=rfl
def kOr(u:TT)(σ:St)(Q:Bool->Hp->Prop):Bool->Hp->Prop:=λ c H=>if c=true then Q true H else u σ H Q
theorem Iq(u:TT)(σ:St)(Q:Bool->Hp->Prop)(c:Bool)(H:Hp):(kOr u σ Q c H)=(if c=true then Q true H else u σ H Q):=rfl
theorem HX(t u:TT)(σ:St)(H:Hp)(Q:Bool->Hp->Prop):(tOr t u σ H Q)=(t σ H (kOr u σ Q)):=rfl
def IG(tb:TE)(σ:St)(Q:VK):VK:=λ x H=>∃ c,x=.bl c/\if c=true then tb σ H Q else Q (.bl false) H
def Kc(tb:TE)(σ:St)(Q:VK):VK:=λ x H=>∃ c,x=.bl c/\if c=true then Q (.bl true) H else tb σ H Q
def IC(Q:VK):VK:=λ x H=>∃ c,x=.bl c/\Q (.bl (!c)) H
def Ju(ta tb:TE)(σ:St)(Q:VK):Bool->Hp->Prop:=λ c H=>if c=true then ta σ H Q else tb σ H Q
theorem FH(ta tb:TE)(σ:St)(Q:VK)(c:Bool)(H:Hp):(Ju ta tb σ Q c H)=(if c=true then ta σ H Q else tb σ H Q):=rfl
theorem HZ(t:TT)(ta tb:TE)(σ:St)(H:Hp)(Q:VK):(tIf t ta tb σ H Q)=(t σ H (Ju ta tb σ Q)):=rfl
def GO(r':R2)(y:V)(Q:VK):VK:=λ w H=>r' y w H Q
theorem FT(r':R2)(y w:V)(Q:VK)(H:Hp):(GO r' y Q w H)=(r' y w H Q):=rfl
def Hs(r':R2)(tc:TE)(σ:St)(y:V)(Q:VK):VK:=λ z H=>∃ k,z=.bl k/\(if k=true then tc σ H (GO r' y Q) else Q (.bl false) H)
def Jy(r r':R2)(tc:TE)(σ:St)(x:V)(Q:VK):VK:=λ y H=>r x y H (Hs r' tc σ y Q)
def Kd(r r':R2)(tb tc:TE)(σ:St)(Q:VK):VK:=λ x H=>tb σ H (Jy r r' tc σ x Q)
theorem E3(σ:St)(H:Hp)(Q:List V->Hp->Prop):(Dq σ H Q)=(Q [] H):=rfl
def uy(x:V)(Q:List V->Hp->Prop):List V->Hp->Prop:=λ xs H=>Q (x::xs) H
theorem yA(x:V)(Q:List V->Hp->Prop)(xs:List V)(H:Hp):(uy x Q xs H)=(Q (x::xs) H):=rfl
def D1(tr:TA)(σ:St)(Q:List V->Hp->Prop):VK:=λ x H=>tr σ H (uy x Q)
theorem Cv(tr:TA)(σ:St)(Q:List V->Hp->Prop)(x:V)(H:Hp):(D1 tr σ Q x H)=(tr σ H (uy x Q)):=rfl
theorem BQ(ta:TE)(tr:TA)(σ:St)(H:Hp)(Q:List V->Hp->Prop):(tu ta tr σ H Q)=(ta σ H (D1 tr σ Q)):=rfl
def nR(sp:Sp)(dvs:List V)(E:XK)(Q:VK):List V->Hp->Prop:=λ vs H=>sp (vs++dvs) H Q E
theorem wm(v0:V)(sp:Sp)(dvs:List V)(E:XK)(Q:VK)(H:Hp):nR sp dvs E Q [v0] H=sp (v0::dvs) H Q E:=rfl
theorem wj(v0 v1:V)(sp:Sp)(dvs:List V)(E:XK)(Q:VK)(H:Hp):nR sp dvs E Q [v0,v1] H=sp (v0::v1::dvs) H Q E:=rfl
theorem wg(v0 v1 v2:V)(sp:Sp)(dvs:List V)(E:XK)(Q:VK)(H:Hp):nR sp dvs E Q [v0,v1,v2] H=sp (v0::v1::v2::dvs) H Q E:=rfl
theorem we(v0 v1 v2 v3:V)(sp:Sp)(dvs:List V)(E:XK)(Q:VK)(H:Hp):nR sp dvs E Q [v0,v1,v2,v3] H=sp (v0::v1::v2::v3::dvs) H Q E:=rfl
theorem wc(v0 v1 v2 v3 v4:V)(sp:Sp)(dvs:List V)(E:XK)(Q:VK)(H:Hp):nR sp dvs E Q [v0,v1,v2,v3,v4] H=sp (v0::v1::v2::v3::v4::dvs) H Q E:=rfl
theorem wb(v0 v1 v2 v3 v4 v5:V)(sp:Sp)(dvs:List V)(E:XK)(Q:VK)(H:Hp):nR sp dvs E Q [v0,v1,v2,v3,v4,v5] H=sp (v0::v1::v2::v3::v4::v5::dvs) H Q E:=rfl
theorem BS(sp:Sp)(dvs:List V)(E:XK)(t:TA)(σ:St)(H:Hp)(Q:VK):(DG sp dvs E t σ H Q)=(t σ H (nR sp dvs E Q)):=rfl
def kCB(r:List V->Hp->VK->Prop)(Q:VK):List V->Hp->Prop:=λ vs H=>r vs H Q
theorem Iz(r:List V->Hp->VK->Prop)(Q:VK)(vs:List V)(H:Hp):(kCB r Q vs H)=(r vs H Q):=rfl
theorem Ia(r:List V->Hp->VK->Prop)(t:TA)(σ:St)(H:Hp)(Q:VK):(tCB r t σ H Q)=(t σ H (kCB r Q)):=rfl
theorem BN(nx:St->Hp->Prop)(rt:VK)(bk ct:St->Hp->Prop)(σ:St)(H:Hp):(DD ⟨nx,rt,bk,ct⟩ σ H)=(nx σ H):=rfl
theorem Ae(t u:TS)(nx:St->Hp->Prop)(rt:VK)(bk ct:St->Hp->Prop)(σ:St)(H:Hp):(IT t u ⟨nx,rt,bk,ct⟩ σ H)=(t ⟨u ⟨nx,rt,bk,ct⟩,rt,bk,ct⟩ σ H):=rfl
theorem EZ(te:TE)(nx:St->Hp->Prop)(rt:VK)(bk ct:St->Hp->Prop)(σ:St)(H:Hp):(IU te ⟨nx,rt,bk,ct⟩ σ H)=(te σ H rt):=rfl
def D0(nx:St->Hp->Prop)(σ:St):VK:=λ x H=>nx σ H
theorem Cu(nx:St->Hp->Prop)(σ:St)(x:V)(H:Hp):(D0 nx σ x H)=(nx σ H):=rfl
theorem BO(te:TE)(nx:St->Hp->Prop)(rt:VK)(bk ct:St->Hp->Prop)(σ:St)(H:Hp):(DE te ⟨nx,rt,bk,ct⟩ σ H)=(te σ H (D0 nx σ)):=rfl
def Jt(t u:TS)(D:pH)(σ:St):Bool->Hp->Prop:=λ b H=>if b=true then t D σ H else u D σ H
theorem FG(t u:TS)(D:pH)(σ:St)(b:Bool)(H:Hp):(Jt t u D σ b H)=(if b=true then t D σ H else u D σ H):=rfl
theorem E4(c:TT)(t u:TS)(D:pH)(σ:St)(H:Hp):(GD c t u D σ H)=(c σ H (Jt t u D σ)):=rfl
def JA(g:TG)(σ:St)(nx:St->Hp->Prop):VK:=λ x H=>g x σ H nx
theorem Ga(g:TG)(σ:St)(nx:St->Hp->Prop)(x:V)(H:Hp):(JA g σ nx x H)=(g x σ H nx):=rfl
theorem E8(te:TE)(g:TG)(nx:St->Hp->Prop)(rt:VK)(bk ct:St->Hp->Prop)(σ:St)(H:Hp):(GV te g ⟨nx,rt,bk,ct⟩ σ H)=(te σ H (JA g σ nx)):=rfl
def Jr(i j:Nat)(σ:St)(nx:St->Hp->Prop):List V->Hp->Prop:=λ vs H=>∃ v w,vs=[v,w]/\nx ((σ.set i (some v)).set j (some w)) H
theorem Fx(i j:Nat)(σ:St)(nx:St->Hp->Prop)(v w:V)(H:Hp):Jr i j σ nx [v,w] H=dh i v σ H (λ σ' H'=>dh j w σ' H' nx):=propext ⟨λ ⟨_,_,e,q⟩=>by cases e;exact q,λ q=>⟨v,w,rfl,q⟩⟩
theorem E1(i j:Nat)(ta:TA)(nx:St->Hp->Prop)(rt:VK)(bk ct:St->Hp->Prop)(σ:St)(H:Hp):(IV i j ta ⟨nx,rt,bk,ct⟩ σ H)=(ta σ H (Jr i j σ nx)):=rfl
def kGs(u:TGs)(r:List V)(Q:St->Hp->Prop):St->Hp->Prop:=λ σ' H'=>u r σ' H' Q
theorem Iw(u:TGs)(r:List V)(Q:St->Hp->Prop)(σ:St)(H:Hp):(kGs u r Q σ H)=(u r σ H Q):=rfl
section
variable {X:Cx}
theorem OpR.mono{f:Value->Value->Sem Value}{r r':R2}(h:OpR X f r)(m:∀ x y H Q,r' x y H Q->r x y H Q):OpR X f r':=λ pins s σ H x y v u Q I rx ry hq=>h pins s σ H x y v u Q I rx ry (m _ _ _ _ hq)
theorem bN.mono{f:Value}{r r':List V->Hp->VK->Prop}(h:bN X f r)(m:∀ xs H Q,r' xs H Q->r xs H Q):bN X f r':=λ pins s σ H xs us Q I rx hq=>h pins s σ H xs us Q I rx (m _ _ _ hq)
theorem IxR.mono{r r':R2}(h:IxR X r)(m:∀ x y H Q,r' x y H Q->r x y H Q):IxR X r':=λ a b pins s σ H x y v u Q I rx ry hq=>h a b pins s σ H x y v u Q I rx ry (m _ _ _ _ hq)
theorem SlR.mono{r r':V->Option Int->Option Int->Hp->VK->Prop}(h:SlR X r)(m:∀ x lo hi H Q,r' x lo hi H Q->r x lo hi H Q):SlR X r':=λ pins s σ H x v vl vu lo hi sl Q I rx a b c hq=>h pins s σ H x v vl vu lo hi sl Q I rx a b c (m _ _ _ _ _ hq)
theorem PG.mono{tg:Expr}{g g':TG}(h:PG X tg g)(m:∀ v σ H Q,g' v σ H Q->g v σ H Q):PG X tg g':=λ pins s σ H v u Q I r hq=>h pins s σ H v u Q I r (m _ _ _ _ hq)
theorem fM{K:W.Frag}{H:Hp}{p:Addr}{ys:List V}(h:ck H p=some ys):SqL K H p ys\/SqT K H p ys:=by
 unfold ck at h
 cases e:H p with
 | none=>rw [e] at h;cases h
 | some o=>
  rw [e] at h;have h':GF o=some ys:=h
  cases o with
  | lst xs=>cases h';exact .inl (SqL.of e)
  | tup xs=>cases h';exact .inr (SqT.of e)
  | frz ob u=>
   cases u with
   | lst xs=>cases h';exact .inl (.inl (.inr ⟨ob,e⟩))
   | _=>cases h'
  | _=>cases h'
theorem di{H:Hp}{p:Addr}{ys:List V}(h:aO H p=some ys):H p=some (.lst ys):=by
 unfold aO at h
 cases e:H p with
 | none=>rw [e] at h;cases h
 | some o=>
  rw [e] at h;have h':Hc o=some ys:=h
  cases o with
  | lst xs=>cases h';rfl
  | _=>cases h'
theorem pI{H:Hp}{p:Addr}{ys:List V}(h:g9 H p=some ys):H p=some (.tup ys):=by
 unfold g9 at h
 cases e:H p with
 | none=>rw [e] at h;cases h
 | some o=>
  rw [e] at h;have h':GU o=some ys:=h
  cases o with
  | tup xs=>cases h';rfl
  | _=>cases h'
def Hh(H:Hp)(Q:VK):List V->Prop:=λ ys=>Q (.int ys.length) H
theorem FD(H:Hp)(Q:VK)(ys:List V):Hh H Q ys=Q (.int ys.length) H:=rfl
def Ds(xs:List V)(H:Hp)(Q:VK):Prop:=match xs with
 | [.ref p]=>aS (ck H p) (Hh H Q)
 | [.str z]=>z.length<=sizeLine/\Q (.int z.length) H
 | _=>False
theorem Fi(p:Addr)(H:Hp)(Q:VK):Ds [.ref p] H Q=aS (ck H p) (Hh H Q):=rfl
theorem az:bN X (.builtin "len") Ds:=by
 refine(cT.or nC).mono λ xs H Q h=>?_;unfold Ds at h;split at h
 ·rename_i p;obtain⟨ys,e,q⟩:=av h;exact .inl ⟨p,ys,rfl,fM e,q⟩
 ·rename_i z;exact .inr ⟨z,rfl,h.1,h.2⟩
 ·exact h.elim
def Hi(H:Hp)(Q:VK):V->Prop:=λ v=>Q v H
theorem FE(H:Hp)(Q:VK)(v:V):Hi H Q v=Q v H:=rfl
def kIx(i:Int)(H:Hp)(Q:VK):List V->Prop:=λ ys=>aS (atI ys i) (Hi H Q)
theorem Iv(i:Int)(H:Hp)(Q:VK)(ys:List V):kIx i H Q ys=aS (atI ys i) (Hi H Q):=rfl
def qIx:R2:=λ x y H Q=>match x,y with
 | .ref p,.int i=>aS (ck H p) (kIx i H Q)
 | _,_=>False
theorem Ic(p:Addr)(i:Int)(H:Hp)(Q:VK):qIx (.ref p) (.int i) H Q=aS (ck H p) (kIx i H Q):=rfl
theorem aB:IxR X qIx:=by
 refine(oH.or Gr).mono λ x y H Q h=>?_;unfold qIx at h;split at h
 ·rename_i p i;obtain⟨ys,e,q⟩:=av h;obtain⟨v,e2,q2⟩:=av q
  rcases fM (K:=X.K) e with z|z
  ·exact .inl ⟨p,ys,i,v,rfl,rfl,z,e2,q2⟩
  ·exact .inr ⟨p,ys,i,v,rfl,rfl,z,e2,q2⟩
 ·exact h.elim
theorem IL{α:Type}(a:α)(xs:List α):atI (a::xs) 0=some a:=ff (j:=0) rfl
theorem IK{α:Type}(a b:α)(xs:List α):atI (a::b::xs) 1=some b:=ff (j:=1) rfl
theorem IJ{α:Type}(a b c:α)(xs:List α):atI (a::b::c::xs) 2=some c:=ff (j:=2) rfl
def ID(H:Hp)(Q:VK):List V->Prop:=λ ys=>∀ l,H l=none->Q (.ref l) (upd H l (.lst ys))
def DO(xs:List V)(H:Hp)(Q:VK):Prop:=match xs with
 | [.ref p]=>aS (ck H p) (ID H Q)
 | _=>False
theorem sF:bN X (.type "list") DO:=by
 refine nz.mono λ xs H Q h=>?_;unfold DO at h;split at h
 ·rename_i p;obtain⟨ys,e,q⟩:=av h;exact⟨p,ys,rfl,fM e,q⟩
 ·exact h.elim
def AO(p:Addr)(H:Hp)(Q:VK):HO->Prop:=λ o=>match o with
 | .lst ys=>∀ l,H l=none->Q (.ref l) (upd H l (.tup ys))
 | .tup _=>Q (.ref p) H
 | _=>False
def Aa(xs:List V)(H:Hp)(Q:VK):Prop:=match xs with
 | [.ref p]=>aS (H p) (AO p H Q)
 | _=>False
theorem pf:bN X (.type "tuple") Aa:=by
 refine lP.mono λ xs H Q h=>?_;unfold Aa at h;split at h
 ·rename_i p;obtain⟨o,e,q⟩:=av h;unfold AO at q;split at q
  ·rename_i ys;exact⟨p,ys,rfl,.inl ⟨SqL.of e,q⟩⟩
  ·rename_i ys;exact⟨p,ys,rfl,.inr ⟨SqT.of e,q⟩⟩
  ·exact q.elim
 ·exact h.elim
def G7(xs:List V)(H:Hp)(Q:VK):Prop:=match xs with
 | [.int i]=>Q (.int (if i < 0 then -i else i)) H
 | _=>False
theorem Fl(i:Int)(H:Hp)(Q:VK):G7 [.int i] H Q=Q (.int (if i < 0 then -i else i)) H:=rfl
theorem bT:bN X (.builtin "abs") G7:=by
 refine zD.mono λ xs H Q h=>?_;unfold G7 at h;split at h
 ·rename_i i;exact⟨i,rfl,h⟩
 ·exact h.elim
def GZ(xs:List V)(H:Hp)(Q:VK):Prop:=match xs with
 | [.int i,.int j]=>Q (.int (if i < j then j else i)) H
 | _=>False
theorem Fg(i j:Int)(H:Hp)(Q:VK):GZ [.int i,.int j] H Q=Q (.int (if i < j then j else i)) H:=rfl
theorem dm(hc:X.calm=true):bN X (.builtin "max") GZ:=by
 refine(xb hc).mono λ xs H Q h=>?_;unfold GZ at h;split at h
 ·rename_i i j;exact⟨i,j,rfl,h⟩
 ·exact h.elim
def GY(xs:List V)(H:Hp)(Q:VK):Prop:=match xs with
 | [.int i,.int j]=>Q (.int (if j < i then j else i)) H
 | _=>False
theorem Ff(i j:Int)(H:Hp)(Q:VK):GY [.int i,.int j] H Q=Q (.int (if j < i then j else i)) H:=rfl
theorem ei(hc:X.calm=true):bN X (.builtin "min") GY:=by
 refine(xa hc).mono λ xs H Q h=>?_;unfold GY at h;split at h
 ·rename_i i j;exact⟨i,j,rfl,h⟩
 ·exact h.elim
def tyO:HO->Option String
 | .lst _=>some "list"
 | .tup _=>some "tuple"
 | .frz _ (.lst _)=>some "list"
 | .dK _=>some "dict"
 | .dT _=>some "dict"
 | _=>none
theorem A7(xs:List V):tyO (.lst xs)=some "list":=rfl
theorem A6(xs:List V):tyO (.tup xs)=some "tuple":=rfl
def tyN(H:Hp):V->Option String
 | .non=>some "NoneType"
 | .bl _=>some "bool"
 | .int _=>some "int"
 | .str _=>some "str"
 | .ref p=>(H p).bind tyO
 | _=>none
theorem Ba(H:Hp):tyN H .non=some "NoneType":=rfl
theorem Ef(H:Hp)(b:Bool):tyN H (.bl b)=some "bool":=rfl
theorem Bb(H:Hp)(i:Int):tyN H (.int i)=some "int":=rfl
theorem A8(H:Hp)(x:Str):tyN H (.str x)=some "str":=rfl
theorem A9(H:Hp)(p:Addr):tyN H (.ref p)=(H p).bind tyO:=rfl
theorem Ee{K:W.Frag}{H:Hp}{x:V}{t:String}(h:tyN H x=some t):pG K H x (.type t):=by
 cases x with
 | non=>cases h;exact .non
 | bl b=>cases h;exact .bl b
 | int i=>cases h;exact .int i
 | str x=>cases h;exact .str x
 | ref p=>
  have h':(H p).bind tyO=some t:=h
  cases e:H p with
  | none=>rw [e] at h';cases h'
  | some o=>
   rw [e] at h';have h2:tyO o=some t:=h'
   cases o with
   | lst xs=>cases h2;exact .lst e
   | tup xs=>cases h2;exact .tup e
   | dK xs=>cases h2;exact .dK e
   | dT xs=>cases h2;exact .dT e
   | frz ob u=>
    cases u with
    | lst xs=>cases h2;exact .frz e
    | _=>cases h2
   | _=>cases h2
 | _=>cases h
def md:List String:=["NoneType", "bool", "int", "str", "list", "tuple", "dict"]
def JE(t n:String):Bool:=t == n || (t == "bool" && n == "int")
theorem yV(K:W.Frag):∀ t∈md,∀ n∈md,W.kitOne K (.type t) (.type n)=some (JE t n):=by
 intro t ht n hn;unfold md at ht hn;simp only [mem_cons,not_mem_nil,or_false] at ht hn
 rcases ht with rfl|rfl|rfl|rfl|rfl|rfl|rfl<;>rcases hn with rfl|rfl|rfl|rfl|rfl|rfl|rfl<;>exact wL K _ _ _ (by decide +kernel)
def lR(n:String)(H:Hp)(Q:VK):String->Prop:=λ t=>t∈md/\Q (.bl (JE t n)) H
def sU(xs:List V)(H:Hp)(Q:VK):Prop:=match xs with
 | [x,.ty n]=>n∈md/\aS (tyN H x) (lR n H Q)
 | _=>False
theorem aQ:bN X (.builtin "isinstance") sU:=by
 refine zC.mono λ xs H Q h=>?_;unfold sU at h;split at h
 ·rename_i x n;obtain⟨hn,h⟩:=h;obtain⟨t,e,ht,q⟩:=av h;exact⟨x,n,_,_,rfl,Ee e,yV _ t ht n hn,q⟩
 ·exact h.elim
theorem rJ(x:V)(H:Hp)(Q:VK):sU [x,.ty "int"] H Q=aS (tyN H x) (lR "int" H Q):=by
 unfold sU;exact propext ⟨λ h=>h.2,λ h=>⟨by decide,h⟩⟩
theorem o6(x:V)(H:Hp)(Q:VK):sU [x,.ty "bool"] H Q=aS (tyN H x) (lR "bool" H Q):=by
 unfold sU;exact propext ⟨λ h=>h.2,λ h=>⟨by decide,h⟩⟩
theorem nv(x:V)(H:Hp)(Q:VK):sU [x,.ty "tuple"] H Q=aS (tyN H x) (lR "tuple" H Q):=by
 unfold sU;exact propext ⟨λ h=>h.2,λ h=>⟨by decide,h⟩⟩
theorem oZ(x:V)(H:Hp)(Q:VK):sU [x,.ty "list"] H Q=aS (tyN H x) (lR "list" H Q):=by
 unfold sU;exact propext ⟨λ h=>h.2,λ h=>⟨by decide,h⟩⟩
theorem rH(x:V)(H:Hp)(Q:VK):sU [x,.ty "str"] H Q=aS (tyN H x) (lR "str" H Q):=by
 unfold sU;exact propext ⟨λ h=>h.2,λ h=>⟨by decide,h⟩⟩
theorem vY(H:Hp)(Q:VK):lR "int" H Q "NoneType"=Q (.bl false) H:=propext ⟨λ h=>h.2,λ h=>⟨by decide,h⟩⟩
theorem vX(H:Hp)(Q:VK):lR "bool" H Q "bool"=Q (.bl true) H:=propext ⟨λ h=>h.2,λ h=>⟨by decide,h⟩⟩
theorem vW(H:Hp)(Q:VK):lR "int" H Q "bool"=Q (.bl true) H:=propext ⟨λ h=>h.2,λ h=>⟨by decide,h⟩⟩
theorem vU(H:Hp)(Q:VK):lR "bool" H Q "int"=Q (.bl false) H:=propext ⟨λ h=>h.2,λ h=>⟨by decide,h⟩⟩
theorem vT(H:Hp)(Q:VK):lR "int" H Q "int"=Q (.bl true) H:=propext ⟨λ h=>h.2,λ h=>⟨by decide,h⟩⟩
theorem vQ(H:Hp)(Q:VK):lR "int" H Q "str"=Q (.bl false) H:=propext ⟨λ h=>h.2,λ h=>⟨by decide,h⟩⟩
theorem vP(H:Hp)(Q:VK):lR "str" H Q "str"=Q (.bl true) H:=propext ⟨λ h=>h.2,λ h=>⟨by decide,h⟩⟩
theorem vS(H:Hp)(Q:VK):lR "int" H Q "list"=Q (.bl false) H:=propext ⟨λ h=>h.2,λ h=>⟨by decide,h⟩⟩
theorem vR(H:Hp)(Q:VK):lR "list" H Q "list"=Q (.bl true) H:=propext ⟨λ h=>h.2,λ h=>⟨by decide,h⟩⟩
theorem vO(H:Hp)(Q:VK):lR "int" H Q "tuple"=Q (.bl false) H:=propext ⟨λ h=>h.2,λ h=>⟨by decide,h⟩⟩
theorem vN(H:Hp)(Q:VK):lR "tuple" H Q "tuple"=Q (.bl true) H:=propext ⟨λ h=>h.2,λ h=>⟨by decide,h⟩⟩
theorem vV(H:Hp)(Q:VK):lR "int" H Q "dict"=Q (.bl false) H:=propext ⟨λ h=>h.2,λ h=>⟨by decide,h⟩⟩
def Hw(r:V->List V->Hp->VK->Prop)(x:V)(Q:VK):List V->Hp->Prop:=λ xs H=>r x xs H Q
theorem FX(r:V->List V->Hp->VK->Prop)(x:V)(Q:VK)(xs:List V)(H:Hp):Hw r x Q xs H=r x xs H Q:=rfl
def kBM(K:W.Frag)(T:String)(r:V->List V->Hp->VK->Prop)(t:TA)(σ:St)(Q:VK):VK:=λ x H=>tyV K T x H/\t σ H (Hw r x Q)
theorem IA(K:W.Frag)(T:String)(r:V->List V->Hp->VK->Prop)(t:TA)(σ:St)(Q:VK)(x:V)(H:Hp):kBM K T r t σ Q x H=(tyV K T x H/\t σ H (Hw r x Q)):=rfl
theorem Ib(K:W.Frag)(T:String)(r:V->List V->Hp->VK->Prop)(to:TE)(t:TA)(σ:St)(H:Hp)(Q:VK):tBM K T r to t σ H Q=to σ H (kBM K T r t σ Q):=rfl
def Jz(K:W.Frag)(T:String)(r:V->List V->Hp->VK->Prop)(Q:VK):VK:=λ x H=>tyV K T x H/\r x [] H Q
theorem FW(K:W.Frag)(T:String)(r:V->List V->Hp->VK->Prop)(Q:VK)(x:V)(H:Hp):Jz K T r Q x H=(tyV K T x H/\r x [] H Q):=rfl
theorem E7(K:W.Frag)(T:String)(r:V->List V->Hp->VK->Prop)(to:TE)(σ:St)(H:Hp)(Q:VK):Ja K T r to σ H Q=to σ H (Jz K T r Q):=rfl
theorem xS(K:W.Frag)(p:Addr)(H:Hp)(h:(aO H p).isSome=true):tyV K "list" (.ref p) H=True:=by
 cases e:aO H p with
 | none=>rw [e] at h;cases h
 | some ys=>exact eq_true (.inl ⟨rfl,ys,SqL.of (di e)⟩)
def JB(l:Addr)(y:V)(H:Hp)(Q:VK):List V->Prop:=λ xs=>xs.length < sizeLine/\Q .non (upd H l (.lst (xs++[y])))
theorem Gb(l:Addr)(y:V)(H:Hp)(Q:VK)(xs:List V):JB l y H Q xs=(xs.length < sizeLine/\Q .non (upd H l (.lst (xs++[y])))):=rfl
theorem vL(l:Addr)(y:V)(H:Hp)(Q:VK):uJ (.ref l) [y] H Q=aS (aO H l) (JB l y H Q):=by
 refine propext ⟨λ h=>?_,λ h=>?_⟩
 ·obtain⟨_,xs,_,e1,e2,e3,a,b⟩:=h;cases e1;cases e2;have e:aO H l=some xs:=by unfold aO;rw [e3];rfl
  rw [e];exact⟨a,b⟩
 ·obtain⟨xs,e,a,b⟩:=av h;exact⟨l,xs,y,rfl,rfl,di e,a,b⟩
def Jp(l:Addr)(H:Hp)(Q:VK):List V->Prop:=λ xs=>Q .non (upd H l (.lst xs.reverse))
theorem Fv(l:Addr)(H:Hp)(Q:VK)(xs:List V):Jp l H Q xs=Q .non (upd H l (.lst xs.reverse)):=rfl
theorem rE(l:Addr)(H:Hp)(Q:VK):p8 (.ref l) [] H Q=aS (aO H l) (Jp l H Q):=by
 refine propext ⟨λ h=>?_,λ h=>?_⟩
 ·obtain⟨_,xs,e1,_,e3,b⟩:=h;cases e1;have e:aO H l=some xs:=by unfold aO;rw [e3];rfl
  rw [e];exact b
 ·obtain⟨xs,e,b⟩:=av h;exact⟨l,xs,rfl,rfl,di e,b⟩
def AU(l:Addr)(H:Hp)(Q:VK)(xs:List V):V->Prop:=λ y=>Q y (upd H l (.lst xs.dropLast))
theorem Ci(l:Addr)(H:Hp)(Q:VK)(xs:List V)(y:V):AU l H Q xs y=Q y (upd H l (.lst xs.dropLast)):=rfl
def Jq(l:Addr)(H:Hp)(Q:VK):List V->Prop:=λ xs=>aS (xs[xs.length - 1]?) (AU l H Q xs)
theorem Fw(l:Addr)(H:Hp)(Q:VK)(xs:List V):Jq l H Q xs=aS (xs[xs.length - 1]?) (AU l H Q xs):=rfl
theorem Fb(l:Addr)(H:Hp)(Q:VK):Jc (.ref l) [] H Q=aS (aO H l) (Jq l H Q):=by
 refine propext ⟨λ h=>?_,λ h=>?_⟩
 ·obtain⟨_,xs,y,e1,_,e3,e4,b⟩:=h;cases e1;have e:aO H l=some xs:=by unfold aO;rw [e3];rfl
  rw [e]
  show aS (xs[xs.length - 1]?) _
  rw [e4];exact b
 ·obtain⟨xs,e,b⟩:=av h;obtain⟨y,e4,b⟩:=av b;exact⟨l,xs,y,rfl,rfl,di e,e4,b⟩
def IE(xs:List V)(H:Hp)(Q:VK):List V->Prop:=λ ys=>xs.length+ys.length<=sizeLine/\∀ p,H p=none->Q (.ref p) (upd H p (.lst (xs++ys)))
def IF(b:Addr)(H:Hp)(Q:VK):List V->Prop:=λ xs=>aS (aO H b) (IE xs H Q)
theorem Fc(l b:Addr)(H:Hp)(Q:VK):Jd (.ref l) (.ref b) H Q=aS (aO H l) (IF b H Q):=by
 refine propext ⟨λ h=>?_,λ h=>?_⟩
 ·obtain⟨l',b',xs,zs,e1,e2,e3,e4,hz,hq⟩:=h;cases e1;cases e2;have e:aO H l=some xs:=by unfold aO;rw [e3];rfl
  have e':aO H b=some zs:=by unfold aO;rw [e4];rfl
  rw [e]
  show aS (aO H b) _
  rw [e'];exact⟨hz,hq⟩
 ·obtain⟨xs,e,q⟩:=av h;obtain⟨zs,e',a,q⟩:=av q;exact⟨l,b,xs,zs,rfl,rfl,di e,di e',a,q⟩
def AS(p:Addr)(xs:List V)(v:V)(H:Hp)(Q:Hp->Prop):Nat->Prop:=λ j=>Q (upd H p (.lst (xs.set j v)))
theorem Cg(p:Addr)(xs:List V)(v:V)(H:Hp)(Q:Hp->Prop)(j:Nat):AS p xs v H Q j=Q (upd H p (.lst (xs.set j v))):=rfl
def Jo(p:Addr)(i:Int)(v:V)(H:Hp)(Q:Hp->Prop):List V->Prop:=λ xs=>aS (ixN xs.length i) (AS p xs v H Q)
theorem Fu(p:Addr)(i:Int)(v:V)(H:Hp)(Q:Hp->Prop)(xs:List V):Jo p i v H Q xs=aS (ixN xs.length i) (AS p xs v H Q):=rfl
theorem BY(p:Addr)(i:Int)(v:V)(H:Hp)(Q:Hp->Prop):DK (.ref p) (.int i) v H Q=aS (aO H p) (Jo p i v H Q):=by
 refine propext ⟨λ h=>?_,λ h=>?_⟩
 ·obtain⟨_,xs,_,j,e1,e2,e3,e4,b⟩:=h;cases e1;cases e2;have e:aO H p=some xs:=by unfold aO;rw [e3];rfl
  rw [e]
  show aS (ixN xs.length i) _
  rw [e4];exact b
 ·obtain⟨xs,e,q⟩:=av h;obtain⟨j,e4,q⟩:=av q;exact⟨p,xs,i,j,rfl,rfl,di e,e4,q⟩
def ux(t:zT)(o v:V)(σ:St)(Q:St->Hp->Prop):VK:=λ i H=>t o i v H λ H3=>Q σ H3
theorem yw(t:zT)(o v:V)(σ:St)(Q:St->Hp->Prop)(i:V)(H:Hp):ux t o v σ Q i H=t o i v H (Q σ):=rfl
def Ai(ti:TE)(t:zT)(v:V)(σ:St)(Q:St->Hp->Prop):VK:=λ o H=>ti σ H (ux t o v σ Q)
theorem yx(ti:TE)(t:zT)(v:V)(σ:St)(Q:St->Hp->Prop)(o:V)(H:Hp):Ai ti t v σ Q o H=ti σ H (ux t o v σ Q):=rfl
theorem Gg(to ti:TE)(t:zT)(v:V)(σ:St)(H:Hp)(Q:St->Hp->Prop):JH to ti t v σ H Q=to σ H (Ai ti t v σ Q):=rfl
def kGT(n:Nat)(t:TGs)(σ:St)(H:Hp)(Q:St->Hp->Prop):List V->Prop:=λ xs=>xs.length=n/\t xs σ H Q
theorem Iy(n:Nat)(t:TGs)(σ:St)(H:Hp)(Q:St->Hp->Prop)(xs:List V):kGT n t σ H Q xs=(xs.length=n/\t xs σ H Q):=rfl
def qGT(n:Nat)(t:TGs):TG:=λ v σ H Q=>match v with
 | .ref a=>aS (g9 H a) (kGT n t σ H Q)
 | _=>False
theorem Ie(n:Nat)(t:TGs)(a:Addr)(σ:St)(H:Hp)(Q:St->Hp->Prop):qGT n t (.ref a) σ H Q=aS (g9 H a) (kGT n t σ H Q):=rfl
theorem aU{K:W.Frag}{n:Nat}{t:TGs}{v:V}{σ:St}{H:Hp}{Q:St->Hp->Prop}(h:qGT n t v σ H Q):JG K n t v σ H Q:=by
 unfold qGT at h;split at h
 ·rename_i a;obtain⟨xs,e,hl,q⟩:=av h;exact⟨a,xs,rfl,SqT.of (pI e),hl,q⟩
 ·exact h.elim
theorem uk:OpR X (compareOp .Is) GW:=EG
theorem yj:OpR X (compareOp .IsNot) AA:=BC
def tJ(tb:TS)(D:pH):St->Hp->Prop:=λ σ H=>tb D σ H
theorem aG(tb:TS)(D:pH)(σ:St)(H:Hp):tJ tb D σ H=tb D σ H:=rfl
def Dv(g:TG)(tb:TS)(D:pH)(σ:St)(J:It)(H1:Hp):Prop:=∃ W:Nat->Nat->St->Hp->Prop,(∃ m,W 0 m σ H1)/\∀ i m σ H,W i m σ H →
 (J.stop i H/\D.nx σ H)\/(J.go i H/\∃ N:St->Hp->Prop,(∀ σ' H',N σ' H'->∃ m',m' < m/\W (i+1) m' σ' H')/\∀ x H',J.yld i H x H'->g x σ H' λ σ2 H2=>tb { D with nx:=N,ct:=N,bk:=D.nx } σ2 H2)
theorem E5(wi:TI)(g:TG)(tb:TS)(D:pH)(σ:St)(H:Hp):IZ wi g tb D σ H=wi σ H (Dv g tb D σ):=rfl
def kR1(R:It->Hp->Prop):List V->Hp->Prop:=λ vs H=>∃ j:Int,vs=[.int j]/\-(2 ^ 62)<=j/\j < 2 ^ 62/\R (Itr 0 j.toNat) H
theorem Im(R:It->Hp->Prop)(j:Int)(H:Hp):kR1 R [.int j] H=(-(2 ^ 62)<=j/\j < 2 ^ 62/\R (Itr 0 j.toNat) H):=propext ⟨λ ⟨_,e,q⟩=>by cases e;exact q,λ q=>⟨j,rfl,q⟩⟩
theorem CC(ta:TA)(σ:St)(H:Hp)(R:It->Hp->Prop):D4 ta σ H R=ta σ H (kR1 R):=rfl
def tI(K:W.Frag)(a:Addr)(H:Hp)(R:It->Hp->Prop):HO->Prop:=λ o=>match o with
 | .lst _=>R (Itl K a) H
 | .frz _ (.lst _)=>R (Itl K a) H
 | .tup _=>R (Itt K a) H
 | _=>False
theorem wa(K:W.Frag)(a:Addr)(H:Hp)(R:It->Hp->Prop)(xs:List V):tI K a H R (.lst xs)=R (Itl K a) H:=rfl
theorem vZ(K:W.Frag)(a:Addr)(H:Hp)(R:It->Hp->Prop)(xs:List V):tI K a H R (.tup xs)=R (Itt K a) H:=rfl
def GK(K:W.Frag)(R:It->Hp->Prop):VK:=λ x H=>match x with
 | .ref a=>aS (H a) (tI K a H R)
 | _=>False
theorem FI(K:W.Frag)(R:It->Hp->Prop)(a:Addr)(H:Hp):GK K R (.ref a) H=aS (H a) (tI K a H R):=rfl
def Hz(K:W.Frag)(tl:TE):TI:=λ σ H R=>tl σ H (GK K R)
theorem Gf(K:W.Frag)(tl:TE)(σ:St)(H:Hp)(R:It->Hp->Prop):Hz K tl σ H R=tl σ H (GK K R):=rfl
theorem Ac{tg l:Expr}{tl:TE}(hl:PE X l tl):PI X tg l (Hz X.K tl):=by
 intro pins s σ H R I h;refine thn (hl pins s σ H _ I h) λ v s1 ⟨x,H1,I1,r1,q1⟩=>?_;unfold GK at q1;split at q1
 ·rename_i a;cases r1;obtain⟨o,e,q⟩:=av q1
  have fp:∀ b∈[s1.heap.objs.size],nO X pins H1 b:=λ b hb=>by
   have e:b=s1.heap.objs.size:=by simpa using hb
   subst e;exact I1.fpOk (Kq _) (I1.hok.fresh (Kq _))
  have lst:∀ xs,SqL X.K H1 a xs->R (Itl X.K a) H1->wpAny (model X.prog X.w) X.A (pyIter (.ref a)) (PIE X pins σ tg R) X.xe s1:=λ xs hq q=>by
   obtain⟨its,rv,p,hz⟩:=I1.list hq;refine MG p.isList ?_;exact⟨s1.heap.objs.size,[s1.heap.objs.size],_,_,H1,rfl,I1.kept (t':=s1.toks) λ b o e=>Kn _ e,vg a _,⟨_,Kz _ rfl,rfl,rfl⟩,fp,q⟩
  unfold tI at q;split at q
  ·exact lst _ (SqL.of e) q
  ·exact lst _ (.inl (.inr ⟨_,e⟩)) q
  ·obtain⟨its,rv,p,hz⟩:=I1.tuple (SqT.of e);refine wpAny_pyIter_tuple (show s1.heap.IsTuple a its.toArray from p) ?_;exact⟨s1.heap.objs.size,[s1.heap.objs.size],_,_,H1,rfl,I1.kept (t':=s1.toks) λ b o e=>Kn _ e,qU a _,⟨_,Kz _ rfl,rfl,rfl⟩,fp,q⟩
  ·exact q.elim
 ·exact q1.elim
theorem kq{lo:Int}{n:Nat}{g:TG}{tb:TS}{nx:St->Hp->Prop}{rt:VK}{bk ct:St->Hp->Prop}{σ:St}{H:Hp}(Pv:Nat->St->Hp->Prop)(h0:Pv 0 σ H)
  (hs:∀ i σ H,i < n->Pv i σ H->g (.int (lo+i)) σ H (tJ tb ⟨Pv (i+1),rt,nx,Pv (i+1)⟩)) (hd:∀ σ H,Pv n σ H->nx σ H):Dv g tb ⟨nx,rt,bk,ct⟩ σ (Itr lo n) H:=wW Pv h0 hs hd
theorem cz{K:W.Frag}{a:Addr}{xs:List V}{g:TG}{tb:TS}{nx:St->Hp->Prop}{rt:VK}{bk ct:St->Hp->Prop}{σ:St}{H:Hp}(Pv:Nat->St->Hp->Prop)(h0:Pv 0 σ H)(hl:∀ i σ H,i<=xs.length->Pv i σ H->H a=some (.lst xs))
  (hs:∀ i x σ H,xs[i]? = some x->Pv i σ H->g x σ H (tJ tb ⟨Pv (i+1),rt,nx,Pv (i+1)⟩)) (hd:∀ σ H,Pv xs.length σ H->nx σ H):Dv g tb ⟨nx,rt,bk,ct⟩ σ (Itl K a) H:=zk (xs:=xs) Pv h0 (λ i σ H hi p=>SqL.of (hl i σ H hi p)) hs hd
def kWh(tb:TS)(nx:St->Hp->Prop)(rt:VK)(Pv:Nat->St->Hp->Prop)(m:Nat)(σ:St):Bool->Hp->Prop:=λ b H=>if b=true then tb ⟨λ σ' H'=>∃ m',m' < m/\Pv m' σ' H',rt,nx,λ σ' H'=>∃ m',m' < m/\Pv m' σ' H'⟩ σ H else nx σ H
theorem Ik(tb:TS)(nx:St->Hp->Prop)(rt:VK)(Pv:Nat->St->Hp->Prop)(m:Nat)(σ:St)(b:Bool)(H:Hp):kWh tb nx rt Pv m σ b H=(if b=true then tb ⟨λ σ' H'=>∃ m',m' < m/\Pv m' σ' H',rt,nx,λ σ' H'=>∃ m',m' < m/\Pv m' σ' H'⟩ σ H else nx σ H):=rfl
theorem A3{c:TT}{tb:TS}{nx:St->Hp->Prop}{rt:VK}{bk ct:St->Hp->Prop}{σ:St}{H:Hp}(Pv:Nat->St->Hp->Prop)(m0:Nat)(h0:Pv m0 σ H)
  (mono:∀ σ H Q Q',(∀ b H1,Q b H1->Q' b H1)->c σ H Q->c σ H Q')
  (hs:∀ m σ H,Pv m σ H->c σ H (kWh tb nx rt Pv m σ)):tP c tb ⟨nx,rt,bk,ct⟩ σ H:=by
 refine⟨Pv,⟨m0,h0⟩,λ m σ H p=>mono σ H _ _ (λ b H1 q=>?_) (hs m σ H p)⟩;unfold kWh at q
 cases b with
 | true=>exact⟨_,λ σ' H' z=>z,q⟩
 | false=>exact q
end
def kE4(H:Hp)(Q:VK):Bool->Prop:=λ b=>Q (.bl b) H
theorem AN(H:Hp)(Q:VK)(b:Bool):kE4 H Q b=Q (.bl b) H:=rfl
def kC3(D:Addr)(ys:List V)(N:List V->Hp->Prop):VK:=λ y H=>H D=some (.lst ys)/\ys.length < sizeLine/\N (ys++[y]) (upd H D (.lst (ys++[y])))
def kC2(te:TE)(σ2:St)(D:Addr)(ys:List V)(N:List V->Hp->Prop):Bool->Hp->Prop:=λ b H=>if b=true then te σ2 H (kC3 D ys N) else N ys H
def kC1(k:Nat)(tt:TT)(te:TE)(σ:St)(D:Addr)(ys:List V)(N:List V->Hp->Prop):St->Hp->Prop:=λ σ2 H=>(∃ vs:St,vs.length=k/\σ2=vs++σ)/\tt σ2 H (kC2 te σ2 D ys N)
theorem EM(σ:St)(H:Hp)(Q:Bool->Hp->Prop):IS σ H Q=Q true H:=rfl
def xH(k:Nat)(g:TG)(tt:TT)(te:TE)(σ:St)(Q:VK):It->Hp->Prop:=λ J H1=>∀ D,H1 D=none->∃ W:Nat->Nat->List V->Hp->Prop,(∃ m,W 0 m [] (upd H1 D (.lst [])))/\∀ i m ys H,W i m ys H →
 (J.stop i H/\Q (.ref D) H)\/(J.go i H/\∃ N:List V->Hp->Prop,(∀ ys' H',N ys' H'->∃ m',m' < m/\W (i+1) m' ys' H') /\
  ∀ x H',J.yld i H x H'->g x (List.replicate k none++σ) H' (kC1 k tt te σ D ys N))
theorem BR(k:Nat)(wi:TI)(g:TG)(tt:TT)(te:TE)(σ:St)(H:Hp)(Q:VK):Av k wi g tt te σ H Q=wi σ H (xH k g tt te σ Q):=rfl
def DX(i:Nat)(σ:St)(nx:St->Hp->Prop):VK:=λ x H=>dh i x σ H nx
theorem Cd(i:Nat)(σ:St)(nx:St->Hp->Prop)(x:V)(H:Hp):DX i σ nx x H=dh i x σ H nx:=rfl
theorem BL(i:Nat)(te:TE)(nx:St->Hp->Prop)(rt:VK)(bk ct:St->Hp->Prop)(σ:St)(H:Hp):DA i te ⟨nx,rt,bk,ct⟩ σ H=te σ H (DX i σ nx):=rfl
section
variable {k:Nat}{g:TG}{tt:TT}{te:TE}{σ:St}{Q:VK}{H:Hp}{K:PySem.W.Frag}
end
def aY{α:Type}:List (Option α)->Option (List α)
 | []=>some []
 | o::r=>o.bind λ x=>(aY r).map λ xs=>x::xs
def zQ(f:V->Option PyData):HO->Option PyData
 | .lst xs=>(aY (xs.map f)).map .list
 | .tup xs=>(aY (xs.map f)).map .tuple
 | _=>none
def eT(H:Hp)(f:V->Option PyData):V->Option PyData
 | .non=>some .none
 | .bl b=>some (.bool b)
 | .int i=>some (.int i)
 | .str z=>if PyData.strOk z=true then some (.str z) else none
 | .ref p=>(H p).bind (zQ f)
 | _=>none
def jh(H:Hp):Nat->V->Option PyData
 | 0,_=>none
 | n+1,x=>eT H (jh H n) x
def noD:V->Option PyData:=λ _=>none
theorem Gh(H:Hp)(x:V):jh H 6 x=eT H (eT H (eT H (eT H (eT H (eT H noD))))) x:=rfl
theorem rM(H:Hp)(n:Nat)(z:Str):jh H (n+1) (.str z)=if PyData.strOk z=true then some (.str z) else none:=rfl
theorem rN(H:Hp)(n:Nat)(p:Addr):jh H (n+1) (.ref p)=(H p).bind (zQ (jh H n)):=rfl
theorem rP(H:Hp)(f:V->Option PyData)(i:Int):eT H f (.int i)=some (.int i):=rfl
theorem rO(H:Hp)(f:V->Option PyData)(z:Str):eT H f (.str z)=if PyData.strOk z=true then some (.str z) else none:=rfl
theorem gu(H:Hp)(f:V->Option PyData)(p:Addr):eT H f (.ref p)=(H p).bind (zQ f):=rfl
theorem gq(f:V->Option PyData)(xs:List V):zQ f (.lst xs)=(aY (xs.map f)).map .list:=rfl
theorem gn(f:V->Option PyData)(xs:List V):zQ f (.tup xs)=(aY (xs.map f)).map .tuple:=rfl
theorem lO{α:Type}:aY ([]:List (Option α))=some []:=rfl
theorem dc{α:Type}(x:α)(r:List (Option α)):aY (some x::r)=(aY r).map λ xs=>x::xs:=rfl
theorem eB(H:Hp)(f:V->Option PyData):∀ ns:List Int,aY ((ns.map V.int).map (eT H f))=some (ns.map PyData.int)
 | []=>rfl
 | i::r=>by
  show (aY ((r.map V.int).map (eT H f))).map _=_
  rw [eB H f r];rfl
theorem ll{K:W.Frag}{H:Hp}{n:Nat}(ih:∀ x d,jh H n x=some d->j2 K H x d/\d.canLay0=true/\d.depth<=n):∀ (xs:List V) (ds:List PyData),aY (xs.map (jh H n))=some ds->hJ K H xs ds/\PyData.canLayAll0 ds=true/\PyData.depthAll ds<=n
 | [],ds,h=>by cases h;exact⟨.nil,rfl,Lk _⟩
 | x::xs,ds,h=>by
  have h':(jh H n x).bind (λ d=>(aY (xs.map (jh H n))).map λ ds=>d::ds)=some ds:=h
  cases e:jh H n x with
  | none=>rw [e] at h';cases h'
  | some d=>
   rw [e] at h';have h2:(aY (xs.map (jh H n))).map (λ ds=>d::ds)=some ds:=h'
   cases e2:aY (xs.map (jh H n)) with
   | none=>rw [e2] at h2;cases h2
   | some es=>
    rw [e2] at h2;cases h2;obtain⟨a,b,c⟩:=ih x d e;obtain⟨a',b',c'⟩:=ll ih xs es e2;exact⟨.cons a a',by simp [PyData.canLayAll0,b,b'],by simp only [PyData.depthAll];omega⟩
theorem oM{K:W.Frag}{H:Hp}:∀ (n:Nat) (x:V) (d:PyData),jh H n x=some d->j2 K H x d/\d.canLay0=true/\d.depth<=n
 | 0,x,d,h=>by cases h
 | n+1,x,d,h=>by
  cases x with
  | non=>cases h;exact⟨.non,rfl,Lk _⟩
  | bl b=>cases h;exact⟨.bl b,rfl,Lk _⟩
  | int i=>cases h;exact⟨.int i,rfl,Lk _⟩
  | str z=>
   rw [rM] at h;split at h
   ·rename_i hz;cases h;exact⟨.str z,by simpa [PyData.canLay0] using hz,Lk _⟩
   ·cases h
  | ref p=>
   rw [rN] at h
   cases e:H p with
   | none=>rw [e] at h;cases h
   | some o=>
    rw [e] at h;have h':zQ (jh H n) o=some d:=h
    cases o with
    | lst xs=>
     rw [gq] at h'
     cases e2:aY (xs.map (jh H n)) with
     | none=>rw [e2] at h';cases h'
     | some ds=>
      rw [e2] at h';cases h';obtain⟨a,b,c⟩:=ll (K:=K) (oM n) xs ds e2;exact⟨.lst (SqL.of e) a,by simpa [PyData.canLay0] using b,by simp only [PyData.depth];omega⟩
    | tup xs=>
     rw [gn] at h'
     cases e2:aY (xs.map (jh H n)) with
     | none=>rw [e2] at h';cases h'
     | some ds=>
      rw [e2] at h';cases h';obtain⟨a,b,c⟩:=ll (K:=K) (oM n) xs ds e2;exact⟨.tup (SqT.of e) a,by simpa [PyData.canLay0] using b,by simp only [PyData.depth];omega⟩
    | _=>cases h'
  | _=>cases h
theorem dE{K:W.Frag}{H:Hp}{n:Nat}{x:V}{d:PyData}(hn:n<=64)(h:jh H n x=some d):j2 K H x d/\SeqAt.shaped d=true:=by
 obtain⟨a,b,c⟩:=oM (K:=K) n x d h;refine⟨a,?_⟩;unfold SeqAt.shaped;rw [b,decide_eq_true (show d.depth<=64 by omega)];rfl
def GL(neg:Bool)(H:Hp)(Q:VK)(d:PyData):PyData->Prop:=λ e=>Q (.bl (if neg=true then !PyData.eqv d e else PyData.eqv d e)) H
theorem yy(H:Hp)(Q:VK)(d e:PyData):GL true H Q d e=Q (.bl (!PyData.eqv d e)) H:=rfl
theorem yz(H:Hp)(Q:VK)(d e:PyData):GL false H Q d e=Q (.bl (PyData.eqv d e)) H:=rfl
def Hm(neg:Bool)(y:V)(H:Hp)(Q:VK):PyData->Prop:=λ d=>aS (jh H 6 y) (GL neg H Q d)
theorem FL(neg:Bool)(y:V)(H:Hp)(Q:VK)(d:PyData):Hm neg y H Q d=aS (jh H 6 y) (GL neg H Q d):=rfl
def qEq(neg:Bool):R2:=λ x y H Q=>if Dr x y=true then Q (.bl (if neg=true then !decide (x=y) else decide (x=y))) H else aS (jh H 6 x) (Hm neg y H Q)
theorem rK(neg:Bool)(p:Addr)(x:V)(H:Hp)(Q:VK):qEq neg x (.ref p) H Q=aS (jh H 6 x) (Hm neg (.ref p) H Q):=by
 show (if Dr x (.ref p)=true then _ else _)=_
 rw [Ks (by cases x<;>exact Kw)]
theorem lN(i:Int)(j:Int)(H:Hp)(Q:VK):qEq false (V.int i) (V.int j) H Q=Q (.bl (decide (i=j))) H:=by
 have e:decide (((V.int i):V)=(V.int j))=decide (i=j):=by simp
 show Q (.bl (if false=true then !decide ((V.int i)=(V.int j)) else decide ((V.int i)=(V.int j)))) H=_
 rw [e];rfl
theorem lL(i:Int)(j:Int)(H:Hp)(Q:VK):qEq true (V.int i) (V.int j) H Q=Q (.bl (!decide (i=j))) H:=by
 have e:decide (((V.int i):V)=(V.int j))=decide (i=j):=by simp
 show Q (.bl (if true=true then !decide ((V.int i)=(V.int j)) else decide ((V.int i)=(V.int j)))) H=_
 rw [e];rfl
theorem lM(i:Str)(j:Str)(H:Hp)(Q:VK):qEq false (V.str i) (V.str j) H Q=Q (.bl (decide (i=j))) H:=by
 have e:decide (((V.str i):V)=(V.str j))=decide (i=j):=by simp
 show Q (.bl (if false=true then !decide ((V.str i)=(V.str j)) else decide ((V.str i)=(V.str j)))) H=_
 rw [e];rfl
theorem lK(i:Str)(j:Str)(H:Hp)(Q:VK):qEq true (V.str i) (V.str j) H Q=Q (.bl (!decide (i=j))) H:=by
 have e:decide (((V.str i):V)=(V.str j))=decide (i=j):=by simp
 show Q (.bl (if true=true then !decide ((V.str i)=(V.str j)) else decide ((V.str i)=(V.str j)))) H=_
 rw [e];rfl
section
variable {X:Cx}
theorem bH(hu:X.A.units+64 < cLine):OpR X (compareOp .Eq) (qEq false):=by
 refine(HN.or (EH hu)).mono λ x y H Q h=>?_;unfold qEq at h;split at h
 ·rename_i hs;exact .inl ⟨hs,h⟩
 obtain⟨d,e1,h⟩:=av h;obtain⟨e,e2,h⟩:=av h;obtain⟨a,b⟩:=dE (K:=X.K) (by decide) e1;obtain⟨a',b'⟩:=dE (K:=X.K) (by decide) e2;exact .inr ⟨d,e,a,a',b,b',h⟩
theorem cy(hu:X.A.units+64 < cLine):OpR X (compareOp .NotEq) (qEq true):=by
 refine(HK.or (EE hu)).mono λ x y H Q h=>?_;unfold qEq at h;split at h
 ·rename_i hs;exact .inl ⟨hs,h⟩
 obtain⟨d,e1,h⟩:=av h;obtain⟨e,e2,h⟩:=av h;obtain⟨a,b⟩:=dE (K:=X.K) (by decide) e1;obtain⟨a',b'⟩:=dE (K:=X.K) (by decide) e2;exact .inr ⟨d,e,a,a',b,b',h⟩
end
theorem C8(i j:Int):PyData.eqv (.int i) (.int j)=decide (i=j):=Bool.beq_eq_decide_eq i j
theorem C7(i j:Str):PyData.eqv (.str i) (.str j)=(i == j):=rfl
theorem wY(xs ys:List PyData):PyData.eqv (.tuple xs) (.tuple ys)=PyData.eqvAll xs ys:=by simp only [PyData.eqv]
theorem zo(xs ys:List PyData):PyData.eqv (.list xs) (.list ys)=PyData.eqvAll xs ys:=by simp only [PyData.eqv]
theorem jI:PyData.eqvAll [] []=true:=by simp only [PyData.eqvAll]
theorem iV(x y:PyData)(xs ys:List PyData):PyData.eqvAll (x::xs) (y::ys)=(PyData.eqv x y && PyData.eqvAll xs ys):=by simp only [PyData.eqvAll]
theorem qo(x:PyData)(xs:List PyData):PyData.eqvAll (x::xs) []=false:=by simp only [PyData.eqvAll]
theorem zp(x:PyData)(xs:List PyData):PyData.eqvAll [] (x::xs)=false:=by simp only [PyData.eqvAll]
theorem iU:∀ ns ms:List Int,PyData.eqvAll (ns.map PyData.int) (ms.map PyData.int)=decide (ns=ms)
 | [],[]=>by rw [map_nil,jI];rfl
 | [],_::_=>by rw [map_nil,KZ,zp];rfl
 | _::_,[]=>by rw [map_nil,KZ,qo];rfl
 | i::r,j::t=>by
  rw [KZ,KZ,iV,C8,iU r t]
  by_cases h:i=j<;>by_cases h2:r=t<;>simp [h,h2]
theorem Dj(i j:Int):HD i j=(0 < j/\j < 1073741824):=rfl
theorem GB(i j:Int)(h:-18446744073709551616 < i)(h':i < 18446744073709551616):fU i j=True:=eq_true (.inl ⟨by omega,by omega⟩)
theorem GA(i j:Int)(h:-18446744073709551616 < j)(h':j < 18446744073709551616):fU i j=True:=eq_true (.inr ⟨by omega,by omega⟩)
theorem Di(j:Int):HC 10 j=(0<=j/\j<=1000000):=propext ⟨λ h=>⟨h.1,h.2.1⟩,λ h=>⟨h.1,h.2,by decide⟩⟩
theorem IB(n:Nat)(h:n<=1000):(n<=sizeLine)=True:=eq_true (Mi (vm h))
theorem Ext.of{H H':Hp}(h:∀ a,(H a).isSome=true->H' a=H a):Ext H H':=⟨h,λ K a xs q=>by
 have s:lV H H':=λ b o e=>(h b (by rw [e];rfl)).trans e;exact s.seq q⟩
theorem Ext.same{H H':Hp}(h:Ext H H'):lV H H':=λ b o e=>(h.1 b (by rw [e];rfl)).trans e
theorem lV.ext{H H':Hp}(h:lV H H'):Ext H H':=Ext.of λ a q=>by
 cases e:H a with
 | none=>rw [e] at q;cases q
 | some o=>exact h a o e
theorem Ext.refl(H:Hp):Ext H H:=(lV.refl H).ext
theorem Ext.trans{H H1 H2:Hp}(a:Ext H H1)(b:Ext H1 H2):Ext H H2:=(a.same.trans b.same).ext
theorem Ext.new{H:Hp}{p:Addr}{o:HO}(h:H p=none):Ext H (upd H p o):=(xY h).ext
theorem Ext.put{H H1:Hp}{p:Addr}{o:HO}(a:Ext H H1)(h:H p=none):Ext H (upd H1 p o):=lV.ext λ b u e=>by
 rw [ak (bK e h)];exact a.same b u e
theorem Ext.free{H H1:Hp}{p:Addr}(a:Ext H H1)(h:H1 p=none):H p=none:=a.same.free h
theorem Ext.at{H H1:Hp}{p:Addr}{o:HO}(a:Ext H H1)(h:H p=some o):H1 p=some o:=a.same _ _ h
theorem BB{xs:List V}{i:Int}{k:V->Prop}(h0:0<=i)(h1:i < xs.length)(h:∀ v∈xs,k v):aS (atI xs i) k:=by
 obtain⟨v,e,m⟩:=Am xs i h0 h1;rw [e];exact h v m
theorem Ke(CX:CXT)(P:Program)(w:World)(K:W.Frag)(mg:Str->Option Value)(base:Heap)(N:List Str)(qual:Str)(scope:Scope)(f:Addr)(cd:Value)(A:Around)(outer:List Env)(s:Shared)(H:Hp)(E:XK):(zR CX P w K mg base N qual scope f cd A outer s H E).K=K:=rfl
def isW(H:Hp):V->Option Bool
 | .int _=>some true
 | .bl _=>some false
 | .non=>some false
 | .str _=>some false
 | .ref p=>((H p).bind tyO).map λ _=>false
 | _=>none
theorem yZ(H:Hp)(i:Int):isW H (.int i)=some true:=rfl
theorem yY(H:Hp)(p:Addr):isW H (.ref p)=((H p).bind tyO).map λ _=>false:=rfl
theorem uT{H:Hp}{p:Addr}{b:Bool}(h:isW H (.ref p)=some b):b=false/\∃ o,H p=some o/\(tyO o=some "list" \/ tyO o=some "tuple" \/ tyO o=some "dict"):=by
 rw [yY] at h
 cases e:H p with
 | none=>rw [e] at h;cases h
 | some o=>
  rw [e] at h;have h':(tyO o).map (λ _=>false)=some b:=h
  cases e2:tyO o with
  | none=>rw [e2] at h';cases h'
  | some t=>
   rw [e2] at h';cases h';refine⟨rfl,o,rfl,?_⟩
   cases o with
   | lst xs=>exact .inl rfl
   | tup xs=>exact .inr (.inl rfl)
   | dK xs=>exact .inr (.inr rfl)
   | dT xs=>exact .inr (.inr rfl)
   | frz ob u=>cases u with
    | lst xs=>exact .inl rfl
    | _=>cases e2
   | _=>cases e2
def ME(t:TE):Prop:=∀ σ H (Q Q':VK),(∀ v H,Q v H->Q' v H)->t σ H Q->t σ H Q'
def MT(t:TT):Prop:=∀ σ H (Q Q':Bool->Hp->Prop),(∀ b H,Q b H->Q' b H)->t σ H Q->t σ H Q'
def MA(t:TA):Prop:=∀ σ H (Q Q':List V->Hp->Prop),(∀ b H,Q b H->Q' b H)->t σ H Q->t σ H Q'
def MR(r:R2):Prop:=∀ x y H (Q Q':VK),(∀ v H,Q v H->Q' v H)->r x y H Q->r x y H Q'
def MC(r:List V->Hp->VK->Prop):Prop:=∀ x H (Q Q':VK),(∀ v H,Q v H->Q' v H)->r x H Q->r x H Q'
theorem cg{α:Type}{o:Option α}{k k':α->Prop}(m:∀ x,k x->k' x)(h:aS o k):aS o k':=by
 obtain⟨x,e,q⟩:=av h;rw [e];exact m x q
theorem pN{i:Nat}:ME (GC i):=λ σ H Q Q' m ⟨v,e,q⟩=>⟨v,e,m _ _ q⟩
theorem Hb{v:V}:ME (tC v):=λ σ H Q Q' m q=>m _ _ q
theorem AL{r:R2}{a b:TE}(hr:MR r)(ha:ME a)(hb:ME b):ME (tOp r a b):=λ σ H Q Q' m q=>ha σ H _ _ (λ _ _ q=>hb σ _ _ _ (λ _ _ q=>hr _ _ _ _ _ m q) q) q
theorem pO{g:Int->Int->V}:MR (rI0 g):=λ x y H Q Q' m ⟨i,j,e,e',q⟩=>⟨i,j,e,e',m _ _ q⟩
theorem ur{n:Bool}:MR (qEq n):=λ x y H Q Q' m q=>by
 unfold qEq at q ⊢
 by_cases hs:Dr x y=true
 ·rw [Kx hs] at q ⊢;exact m _ _ q
 ·rw [Ks hs] at q ⊢;exact cg (λ _ q=>cg (λ _ q=>m _ _ q) q) q
theorem uu:MA Dq:=λ σ H Q Q' m q=>m _ _ q
theorem oE{a:TE}{r:TA}(ha:ME a)(hr:MA r):MA (tu a r):=λ σ H Q Q' m q=>ha σ H _ _ (λ _ _ q=>hr σ _ _ _ (λ _ _ q=>m _ _ q) q) q
theorem AM{r:List V->Hp->VK->Prop}{t:TA}(hr:MC r)(ht:MA t):ME (tCB r t):=λ σ H Q Q' m q=>ht σ H _ _ (λ _ _ q=>hr _ _ _ _ m q) q
theorem oC:MC Ds:=λ x H Q Q' m q=>by
 unfold Ds at q ⊢;split at q
 ·exact cg (λ _ q=>m _ _ q) q
 ·exact⟨q.1,m _ _ q.2⟩
 ·exact q.elim
theorem kj{t:TE}(h:ME t):MT (xB t):=λ σ H Q Q' m q=>h σ H _ _ (λ _ _ ⟨k,e,q⟩=>⟨k,e,m _ _ q⟩) q
theorem nS{c:TT}{tb:TS}{nx:St->Hp->Prop}{rt:VK}{bk ct:St->Hp->Prop}{σ:St}{H:Hp}(mono:MT c)(Pv:Nat->St->Hp->Prop)(m0:Nat)(h0:Pv m0 σ H)
  (hs:∀ m σ H,Pv m σ H->c σ H (kWh tb nx rt Pv m σ)):tP c tb ⟨nx,rt,bk,ct⟩ σ H:=A3 Pv m0 h0 (λ σ H Q Q'=>mono σ H Q Q') hs
theorem qh:∀ {ns ms:List Int},ns.map V.int=ms.map V.int->ns=ms
 | [],[],_=>rfl
 | [],_::_,h=>by cases h
 | _::_,[],h=>by cases h
 | i::r,j::t,h=>by
  simp only [KZ,List.cons.injEq,V.int.injEq] at h;rw [h.1,qh h.2]
def AW(F:List Int->Prop):List V->Prop:=λ xs=>∃ ns,xs=ns.map V.int/\F ns
theorem Cp(F:List Int->Prop)(ns:List Int):AW F (ns.map V.int)=F ns:=propext ⟨λ ⟨ms,e,h⟩=>by rw [qh e];exact h,λ h=>⟨ns,rfl,h⟩⟩
theorem zz(xs:List V)(z:Int)(h:0<=z):js xs none (some z)=xs.take z.toNat:=by
 unfold js;rw [HT.sIx_none,List.drop_zero,Nat.sub_zero];obtain⟨n,rfl⟩:=Int.eq_ofNat_of_zero_le h;rw [HT.sIx_nat]
 show _=xs.take n
 rcases Nb n xs.length with q|q
 ·rw [MM q]
 ·rw [MB q,Lp (Kq _),Lp q]
def Kb(lo hi:Option Int)(H:Hp)(Q:VK):List V->Prop:=λ xs=>∀ p,H p=none->Q (.ref p) (upd H p (.lst (js xs lo hi)))
def Jf:V->Option Int->Option Int->Hp->VK->Prop:=λ x lo hi H Q=>match x with
 | .ref a=>aS (aO H a) (Kb lo hi H Q)
 | _=>False
theorem JW{X:Cx}:SlR X Jf:=Bf.mono λ x lo hi H Q h=>by
 unfold Jf at h;split at h
 ·rename_i a;obtain⟨xs,e,q⟩:=av h;exact⟨a,xs,rfl,SqL.of (di e),q⟩
 ·exact h.elim
def Hd(r:V->Option Int->Option Int->Hp->VK->Prop)(x:V)(l:Option Int)(Q:VK):Option Int->Hp->Prop:=λ u H=>r x l u H Q
theorem Fq(r:V->Option Int->Option Int->Hp->VK->Prop)(x:V)(l:Option Int)(Q:VK)(u:Option Int)(H:Hp):Hd r x l Q u H=r x l u H Q:=rfl
def He(r:V->Option Int->Option Int->Hp->VK->Prop)(th:TO)(σ:St)(x:V)(Q:VK):Option Int->Hp->Prop:=λ l H=>th σ H (Hd r x l Q)
theorem Fs(r:V->Option Int->Option Int->Hp->VK->Prop)(th:TO)(σ:St)(x:V)(Q:VK)(l:Option Int)(H:Hp):He r th σ x Q l H=th σ H (Hd r x l Q):=rfl
def Jn(r:V->Option Int->Option Int->Hp->VK->Prop)(tl th:TO)(σ:St)(Q:VK):VK:=λ x H=>tl σ H (He r th σ x Q)
theorem Ft(r:V->Option Int->Option Int->Hp->VK->Prop)(tl th:TO)(σ:St)(Q:VK)(x:V)(H:Hp):Jn r tl th σ Q x H=tl σ H (He r th σ x Q):=rfl
theorem HW(r:V->Option Int->Option Int->Hp->VK->Prop)(te:TE)(tl th:TO)(σ:St)(H:Hp)(Q:VK):tSl r te tl th σ H Q=te σ H (Jn r tl th σ Q):=rfl
theorem vJ(σ:St)(H:Hp)(Q:Option Int->Hp->Prop):uG σ H Q=Q none H:=rfl
def DY(Q:Option Int->Hp->Prop):VK:=λ x H=>∃ i,x=.int i/\Q (some i) H
theorem Cj(Q:Option Int->Hp->Prop)(i:Int)(H:Hp):DY Q (.int i) H=Q (some i) H:=propext ⟨λ ⟨_,e,q⟩=>by cases e;exact q,λ q=>⟨i,rfl,q⟩⟩
theorem BM(t:TE)(σ:St)(H:Hp)(Q:Option Int->Hp->Prop):DB t σ H Q=t σ H (DY Q):=rfl
def g8(o:HO)(H:Hp)(Q:VK):Prop:=∀ (p:Addr) (H':Hp),H p=none->Ext H H'->H' p=some o->Q (.ref p) H'
theorem g8.to{o:HO}{H:Hp}{Q:VK}(h:g8 o H Q):∀ p,H p=none->Q (.ref p) (upd H p o):=λ p hp=>h p _ hp (Ext.new hp) aj
def kQT(Q:VK):List V->Hp->Prop:=λ xs H=>xs.length<=sizeLine/\g8 (.tup xs) H Q
theorem Io(Q:VK)(xs:List V)(H:Hp):kQT Q xs H=(xs.length<=sizeLine/\g8 (.tup xs) H Q):=rfl
def kQL(Q:VK):List V->Hp->Prop:=λ xs H=>xs.length<=sizeLine/\g8 (.lst xs) H Q
theorem Ip(Q:VK)(xs:List V)(H:Hp):kQL Q xs H=(xs.length<=sizeLine/\g8 (.lst xs) H Q):=rfl
def Je(t:TA):TE:=λ σ H Q=>t σ H (kQT Q)
theorem Fd(t:TA)(σ:St)(H:Hp)(Q:VK):Je t σ H Q=t σ H (kQT Q):=rfl
def Jg(t:TA):TE:=λ σ H Q=>t σ H (kQL Q)
theorem Fh(t:TA)(σ:St)(H:Hp)(Q:VK):Jg t σ H Q=t σ H (kQL Q):=rfl
section
variable {X:Cx}{es:List Expr}{t:TA}{pos:Pos}
theorem Bq{x1}(h:PA X es t):PE X (.Tuple es x1 pos) (Je t):=by
 intro pins s σ H Q I hq;refine wpAny_Tuple_spliced (thn (h pos pins s σ H _ I hq) λ us s1 ⟨xs,H1,I1,r,z,q⟩=>⟨by rw [←r.length];exact z,?_⟩);have hf:H1 s1.heap.objs.size=none:=I1.hok.fresh (Kq _);refine⟨.ref s1.heap.objs.size,upd H1 s1.heap.objs.size (.tup xs),I1.laid (t':=s1.toks) (λ b u e=>Kn _ e) (Kq _) ?_,rfl,q.to _ hf⟩;exact⟨z,us,r,⟨_,Kz _ rfl,rfl,_,rfl⟩⟩
theorem Br(h:PA X es t):PE X (.List es pos) (Jg t):=by
 intro pins s σ H Q I hq;refine wpAny_List_spliced (thn (h pos pins s σ H _ I hq) λ us s1 ⟨xs,H1,I1,r,z,q⟩=>⟨by rw [←r.length];exact z,?_⟩);have hf:H1 s1.heap.objs.size=none:=I1.hok.fresh (Kq _);refine⟨.ref s1.heap.objs.size,upd H1 s1.heap.objs.size (.lst xs),I1.laid (t':=s1.toks) (λ b u e=>Kn _ e) (Kq _) ?_,rfl,q.to _ hf⟩;exact⟨z,us,0,r,Kz _ rfl⟩
end
def kN(f:List V->HO)(H:Hp)(Q:VK):List V->Prop:=λ ys=>g8 (f ys) H Q
theorem J7(f:List V->HO)(H:Hp)(Q:VK)(ys:List V):kN f H Q ys=g8 (f ys) H Q:=rfl
def AH(xs:List V)(H:Hp)(Q:VK):Prop:=match xs with
 | [.ref p]=>aS (ck H p) (kN .lst H Q)
 | _=>False
theorem B4(p:Addr)(H:Hp)(Q:VK):AH [.ref p] H Q=aS (ck H p) (kN .lst H Q):=rfl
theorem eO{X:Cx}:bN X (.type "list") AH:=sF.mono λ xs H Q h=>by
 unfold AH at h;split at h
 ·exact cg (λ _ q=>q.to) h
 ·exact h.elim
def kNT(p:Addr)(H:Hp)(Q:VK):HO->Prop:=λ o=>match o with
 | .lst ys=>g8 (.tup ys) H Q
 | .tup _=>Q (.ref p) H
 | _=>False
theorem Cm(p:Addr)(H:Hp)(Q:VK)(ys:List V):kNT p H Q (.lst ys)=g8 (.tup ys) H Q:=rfl
def uo(xs:List V)(H:Hp)(Q:VK):Prop:=match xs with
 | [.ref p]=>aS (H p) (kNT p H Q)
 | _=>False
theorem yr(p:Addr)(H:Hp)(Q:VK):uo [.ref p] H Q=aS (H p) (kNT p H Q):=rfl
theorem fA{X:Cx}:bN X (.type "tuple") uo:=pf.mono λ xs H Q h=>by
 unfold uo at h;split at h
 ·refine cg (λ o q=>?_) h;unfold kNT at q;unfold AO;split at q
  ·exact q.to
  ·exact q
  ·exact q.elim
 ·exact h.elim
def GJ(xs:List V)(H:Hp)(Q:VK):List V->Prop:=λ ys=>xs.length+ys.length<=sizeLine/\g8 (.lst (xs++ys)) H Q
theorem FA(xs:List V)(H:Hp)(Q:VK)(ys:List V):GJ xs H Q ys=(xs.length+ys.length<=sizeLine/\g8 (.lst (xs++ys)) H Q):=rfl
def Hg(b:Addr)(H:Hp)(Q:VK):List V->Prop:=λ xs=>aS (aO H b) (GJ xs H Q)
theorem FC(b:Addr)(H:Hp)(Q:VK)(xs:List V):Hg b H Q xs=aS (aO H b) (GJ xs H Q):=rfl
def GH:R2:=λ x y H Q=>match x,y with
 | .ref l,.ref b=>aS (aO H l) (Hg b H Q)
 | _,_=>False
theorem Af(l b:Addr)(H:Hp)(Q:VK):GH (.ref l) (.ref b) H Q=aS (aO H l) (Hg b H Q):=rfl
theorem fe{X:Cx}:OpR X (binaryOp .Add) GH:=EI.mono λ x y H Q h=>by
 unfold GH at h;split at h
 ·rw [Fc];exact cg (λ _ q=>cg (λ _ q=>⟨q.1,q.2.to⟩) q) h
 ·exact h.elim
def kNS(lo hi:Option Int)(H:Hp)(Q:VK):List V->Prop:=λ xs=>g8 (.lst (js xs lo hi)) H Q
theorem Iu(lo hi:Option Int)(H:Hp)(Q:VK)(xs:List V):kNS lo hi H Q xs=g8 (.lst (js xs lo hi)) H Q:=rfl
def nSl:V->Option Int->Option Int->Hp->VK->Prop:=λ x lo hi H Q=>match x with
 | .ref a=>aS (aO H a) (kNS lo hi H Q)
 | _=>False
theorem Ig(a:Addr)(lo hi:Option Int)(H:Hp)(Q:VK):nSl (.ref a) lo hi H Q=aS (aO H a) (kNS lo hi H Q):=rfl
theorem Dl{X:Cx}:SlR X nSl:=JW.mono λ x lo hi H Q h=>by
 unfold nSl at h;split at h
 ·exact cg (λ _ q=>q.to) h
 ·exact h.elim
theorem PE.mono{X:Cx}{e:Expr}{t t':TE}(h:PE X e t)(m:∀ σ H Q,t' σ H Q->t σ H Q):PE X e t':=λ pins s σ H Q I q=>h pins s σ H Q I (m _ _ _ q)
def DV:TE:=λ _ H Q=>g8 (.dK []) H Q
theorem B5(σ:St)(H:Hp)(Q:VK):DV σ H Q=g8 (.dK []) H Q:=rfl
theorem gQ{X:Cx}{pos:Pos}:PE X (.Dict [] [] pos) DV:=ye.mono λ _ _ _ h=>h.to
section
variable {prog:Program}{w:World}{A:Around}{E:Value->Shared->Prop}{s:Shared}
end
section
variable {X:Cx}{pos:Pos}
end
section
variable {X:Cx}{tg:Expr}
end
theorem iP:∀ (n:Nat) (ns:List Int) (val:Nat->Int),(∀ i,val i=ns.getD i 0)->n<=ns.length->preSum val n=(ns.take n).sum
 | 0,ns,val,h,hl=>by simp [preSum]
 | n+1,ns,val,h,hl=>by
  have ih:=iP n ns val h (by omega)
  have e:ns.take (n+1)=ns.take n++[ns.getD n 0]:=by
   rw [List.take_succ,Kk (by omega)];simp [List.getD,Kk (show n < ns.length by omega)]
  rw [preSum,ih,e,List.sum_append,h];simp
def AQ(H:Hp)(Q:VK):List Int->Prop:=λ ns=>Q (.int ns.sum) H
theorem Cb(H:Hp)(Q:VK)(ns:List Int):AQ H Q ns=Q (.int ns.sum) H:=rfl
def GX:List V->Hp->VK->Prop:=λ vs H Q=>match vs with
 | [.ref p]=>aS (aO H p) (AW (AQ H Q))
 | _=>False
theorem Fe(p:Addr)(H:Hp)(Q:VK):GX [.ref p] H Q=aS (aO H p) (AW (AQ H Q)):=rfl
def Hv(F:List Bool->Prop):List V->Prop:=λ xs=>∃ bs,xs=bs.map V.bl/\F bs
theorem va:∀ {ns ms:List Bool},ns.map V.bl=ms.map V.bl->ns=ms
 | [],[],_=>rfl
 | [],_::_,h=>by cases h
 | _::_,[],h=>by cases h
 | i::r,j::t,h=>by
  simp only [KZ,List.cons.injEq,V.bl.injEq] at h;rw [h.1,va h.2]
theorem FV(F:List Bool->Prop)(bs:List Bool):Hv F (bs.map V.bl)=F bs:=propext ⟨λ ⟨ms,e,h⟩=>by rw [va e];exact h,λ h=>⟨bs,rfl,h⟩⟩
def AZ(H:Hp)(Q:VK):List Bool->Prop:=λ bs=>Q (.bl (bs.all id)) H
theorem CB(H:Hp)(Q:VK)(bs:List Bool):AZ H Q bs=Q (.bl (bs.all id)) H:=rfl
def G0:List V->Hp->VK->Prop:=λ vs H Q=>match vs with
 | [.ref p]=>aS (aO H p) (Hv (AZ H Q))
 | _=>False
theorem Fj(p:Addr)(H:Hp)(Q:VK):G0 [.ref p] H Q=aS (aO H p) (Hv (AZ H Q)):=rfl
section
variable {X:Cx}
theorem bz(hc:X.calm=true):bN X (.builtin "sum") GX:=by
 intro pins s σ H vs us Q I r h;unfold GX at h;split at h
 ·rename_i p;obtain⟨xs,e,ns,rfl,q⟩:=av h
  cases r with
  | cons r rr=>
   cases rr;cases r;obtain⟨its,rv,pl,hz⟩:=I.list (SqL.of (di e));have hlt:p < s.heap.objs.size:=by obtain⟨_,e,_⟩:=pl.isList;exact Kt e
   have hlen:its.length=ns.length:=by have:=rv.length;simpa using this.symm
   refine call_sum_walkAnyS (MG pl.isList ⟨s.heap.objs.size,_,_,_,_,_,_,λ i=>ns.getD i 0,rfl,(Walks.list (show X.A.in1.handled=none from I.ok.hd hc) _ p (KL hlt) its.toArray).toS,⟨⟨_,Kz _ rfl,rfl,rfl⟩,pl.isList.push _⟩,λ b hb=>?_,λ i v hP=>?_,λ s' t' hm=>?_⟩)
   ·rw [Lr]
    rcases KS.mp hb with rfl|hb
    ·exact LR _
    ·rw [KQ.mp hb];exact M8 hlt
   ·have hv:its[i]? = some v:=by simpa using hP
    have hi:i < ns.length:=by rw [←hlen];exact(Km.mp hv).1
    obtain⟨u,hu,ru⟩:=rv.get (i:=i) (x:=.int (ns.getD i 0)) (by rw [KH,Kk hi];simp [List.getD,Kk hi]);rw [hv] at hu;cases hu;exact ru
   ·obtain⟨hp,g,d,tk,os⟩:=s'
    have kp:∀ b o,s.heap.get? b=some o->hp.get? b=some o:=λ b o e=>hm.heap b o (λ hmem=>by
     have:b=s.heap.objs.size:=by simpa using hmem
     subst this;exact absurd (Kt e) (LI _)) (Kn _ e)
    have e1:g=s.gens:=hm.gens;have e2:d=s.drawn:=hm.drawn;have e3:os=s.os:=hm.os;subst e1 e2 e3;refine⟨.int ns.sum,H,I.kept (t':=tk) kp,?_,q⟩;have es:=iP its.toArray.size ns (λ i=>ns.getD i 0) (λ _=>rfl) (by simp [hlen]);rw [show its.toArray.size=ns.length by simp [hlen],Lx] at es;rw [show its.toArray.size=ns.length by simp [hlen],es];exact⟨t',rfl⟩
 ·exact h.elim
theorem xr(bs:List Bool):(List.range bs.length).all (λ i=>bs.getD i false)=bs.all id:=by
 rw [L3,LS,LS];refine⟨λ h x hx=>?_,λ h i hi=>?_⟩
 ·obtain⟨i,hi,e⟩:=List.getElem_of_mem hx;have:=h i (K5.mpr hi)
  simpa [List.getD,Kk hi,e] using this
 ·have hi':=K5.mp hi;have:=h (bs[i]) (Lu hi')
  simpa [List.getD,Kk hi'] using this
theorem iL(hc:X.calm=true):bN X (.builtin "all") G0:=by
 intro pins s σ H vs us Q I r h;unfold G0 at h;split at h
 ·rename_i p;obtain⟨xs,e,bs,rfl,q⟩:=av h
  cases r with
  | cons r rr=>
   cases rr;cases r;obtain⟨its,rv,pl,hz⟩:=I.list (SqL.of (di e));have hlt:p < s.heap.objs.size:=by obtain⟨_,e,_⟩:=pl.isList;exact Kt e
   have hlen:its.length=bs.length:=by have:=rv.length;simpa using this.symm
   refine call_all_walk (MG pl.isList ⟨s.heap.objs.size,_,_,_,_,_,λ i=>bs.getD i false,rfl,Walks.list (show X.A.in1.handled=none from I.ok.hd hc) _ p (KL hlt) its.toArray,⟨⟨_,Kz _ rfl,rfl,rfl⟩,pl.isList.push _⟩,λ i v s' Q' E' hP hQ=>?_,λ h' tk hk=>?_⟩)
   ·have hv:its[i]? = some v:=by simpa using hP
    have hi:i < bs.length:=by rw [←hlen];exact(Km.mp hv).1
    obtain⟨u,hu,ru⟩:=rv.get (i:=i) (x:=.bl (bs.getD i false)) (by rw [KH,Kk hi];simp [List.getD,Kk hi]);rw [hv] at hu;cases hu;have e2:v=.bool (bs.getD i false):=ru;subst e2;exact Li hQ
   ·have kp:∀ b o,s.heap.get? b=some o->h'.get? b=some o:=λ b o e=>hk b o (λ hmem=>by
     have:b=s.heap.objs.size:=by simpa using hmem
     subst this;exact absurd (Kt e) (LI _)) (Kn _ e)
    refine⟨.bl (bs.all id),H,I.kept (t':=tk) kp,?_,q⟩;rw [show its.toArray.size=bs.length by simp [hlen],xr];exact rfl
 ·exact h.elim
end
structure Src(prog:Program)(w:World)(it:Addr)(fr:List Addr)(st:Nat->Heap->Prop)(val:Nat->Option Value):Prop where
 mem:it∈fr
 there:∀ k h,st k h->∀ b∈fr,∃ o,h.get? b=some o
 keep:∀ k h h',st k h->(∀ b∈fr,∀ o,h.get? b=some o->h'.get? b=some o)->st k h'
 item:∀ (A:Around) k s v (Q:Value->Shared->Prop) (E:Value->Shared->Prop),st k s.heap->val k=some v->(∀ h',st (k+1) h'->Heap.SameBut it s.heap h'->Q v { s with heap:=h' })->wpAny (model prog w) A (Builtin.SmallTypes.nextOf (.ref it)) Q E s
 fin:∀ (A:Around) k s (Q:Value->Shared->Prop) (E:Value->Shared->Prop),A.handled=none->st k s.heap->val k=none->(∀ h' e,Heap.ExtBut it s.heap h'->(∃ o,h'.get? e=some o/\o.cls=.type "StopIteration")->E (.ref e) { s with heap:=h' })->wpAny (model prog w) A (Builtin.SmallTypes.nextOf (.ref it)) Q E s
theorem xV{prog:Program}{w:World}(it l:Addr)(hne:l ≠ it)(xs:Array Value):Src prog w it [it,l] (λ k h=>h.IsListIter it l k/\h.IsList l xs) (λ k=>xs[k]?) where
 mem:=Kp
 there:=λ k h st b hb=>by
  rcases KS.mp hb with e|hb
  ·obtain⟨o,q,_⟩:=st.1;exact⟨o,by rw [e];exact q⟩
  ·obtain⟨o,q,_⟩:=st.2;exact⟨o,by rw [KQ.mp hb];exact q⟩
 keep:=λ k h h' st q=>⟨st.1.at λ o e=>q it (by simp) o e,st.2.at λ o e=>q l (by simp) o e⟩
 item:=λ A k s v Q E st hv hQ=>wpAny_nextOf_list_item st.1 st.2 hv λ h' a b=>hQ h' ⟨a,st.2.extBut b.extBut hne⟩ b
 fin:=λ A k s Q E hh st hv hE=>wpAny_nextOf_list_end hh st.1 st.2 hv hE
section
variable {prog:Program}{w:World}{A:Around}{E:Value->Shared->Prop}{s:Shared}
theorem lJ{j t:Addr}{k:Nat}{xs:Array Value}{v:Value}{Q:Value->Shared->Prop}(hj:s.heap.IsTupleIter j t k)(ht:s.heap.IsTuple t xs)(hv:xs[k]? = some v)
  (hQ:∀ g,g.IsTupleIter j t (k+1)->Heap.SameBut j s.heap g->Q v { s with heap:=g }):wpAny (model prog w) A (Builtin.SmallTypes.nextOf (.ref j)) Q E s:=by
 obtain⟨oj,h0,h1,h2⟩:=id hj;obtain⟨ot,g0,_,n,g1⟩:=ht;unfold Builtin.SmallTypes.nextOf;refine wpAny_bind (wpAny_callSpecial?_slot (name:=Str.ofString "__next__") hj.typeIs F.slot_tuple_iterator_next (wpAny_call_entry F.slot_tuple_iterator_next hj.typeIs F.entry_tuple_iterator_next ?_ (F.args_tuple_iterator_next_1 _)));refine wpAny_bind (m:=field (.ref j) 0) (wpAny_field h0 h2 (x:=.ref t) rfl ?_)
 show wpAny _ _ (if (Value.ref t == Value.none)=true then _ else _) _ _ _
 rw [Ks (show ¬ ((.ref t:Value) == .none)=true from Kw)];refine Kl (m:=field (.ref j) 1) (Lj h0 h2 (x:=.int k 0) rfl ?_);refine Kl (m:=seqItems? (.ref t)) (LH g0 g1 ?_);simp only [La,hv];refine Kl (wpAny_setField h0 h2 (by simp) (Kv ⟨v,rfl,Kv (hQ _ ⟨_,Heap.get?_update_self _ h0 (Obj.isFreed_of_fields (Obj.data_mapFields h2 _)),(Obj.cls_mapFields ..).trans h1,?_⟩ (Heap.SameBut.update ..))⟩));rw [Obj.data_mapFields h2];simp [rawInt]
theorem nu{j t:Addr}{k:Nat}{xs:Array Value}{Q:Value->Shared->Prop}(hh:A.handled=none)(hj:s.heap.IsTupleIter j t k)(ht:s.heap.IsTuple t xs)(hv:xs[k]? = none)
  (hE:∀ g e,Heap.ExtBut j s.heap g->(∃ o,g.get? e=some o/\o.cls=.type "StopIteration")->E (.ref e) { s with heap:=g }):wpAny (model prog w) A (Builtin.SmallTypes.nextOf (.ref j)) Q E s:=by
 obtain⟨oj,h0,h1,h2⟩:=id hj;obtain⟨ot,g0,_,n,g1⟩:=ht;unfold Builtin.SmallTypes.nextOf;refine wpAny_bind (wpAny_callSpecial?_slot (name:=Str.ofString "__next__") hj.typeIs F.slot_tuple_iterator_next (wpAny_call_entry F.slot_tuple_iterator_next hj.typeIs F.entry_tuple_iterator_next ?_ (F.args_tuple_iterator_next_1 _)));refine wpAny_bind (m:=field (.ref j) 0) (wpAny_field h0 h2 (x:=.ref t) rfl ?_)
 show wpAny _ _ (if (Value.ref t == Value.none)=true then _ else _) _ _ _
 rw [Ks (show ¬ ((.ref t:Value) == .none)=true from Kw)];refine Kl (m:=field (.ref j) 1) (Lj h0 h2 (x:=.int k 0) rfl ?_);refine Kl (m:=seqItems? (.ref t)) (LH g0 g1 ?_);simp only [La,hv];refine Kl (wpAny_rule (Kl (wpAny_setField h0 h2 (by simp) (Kl (m:=newExc (.type "StopIteration") []) ?_))));simp only [newExc,newTuple];refine Kl (Ls (Kl (m:=firstArgMember _ _) (wpAny_of_eq (a:=Value.none) (by first|rfl|(simp only [firstArgMember];rfl)) (Ls ?_ (by size_fits)))) (by size_fits));simp only [raiseNew]
 refine Kl (wpAny_handled ?_);first|rw [show A.in1.handled=none from hh]|rw [hh]
 exact Kl (Kv (wpAny_throw (hE _ _ (((Heap.SameBut.update ..).extBut.push _).push _) ⟨_,Kz _ rfl,rfl⟩)))
theorem Be(it l:Addr)(hne:l ≠ it)(xs:Array Value):Src prog w it [it,l] (λ k h=>h.IsTupleIter it l k/\h.IsTuple l xs) (λ k=>xs[k]?) where
 mem:=Kp
 there:=λ k h st b hb=>by
  rcases KS.mp hb with e|hb
  ·obtain⟨o,q,_⟩:=st.1;exact⟨o,by rw [e];exact q⟩
  ·obtain⟨o,q,_⟩:=st.2;exact⟨o,by rw [KQ.mp hb];exact q⟩
 keep:=λ k h h' st q=>⟨st.1.at λ o e=>q it (by simp) o e,st.2.at λ o e=>q l (by simp) o e⟩
 item:=λ A k s v Q E st hv hQ=>lJ st.1 st.2 hv λ h' a b=>hQ h' ⟨a,st.2.extBut b.extBut hne⟩ b
 fin:=λ A k s Q E hh st hv hE=>nu hh st.1 st.2 hv hE
structure jx(z TI TO i j:Addr)(f g:List Addr):Prop where
 ti:TI ≠ z/\TI ≠ TO/\TI ≠ i/\TI ≠ j
 zt:z ≠ TO
 zf:z ∉ f
 zg:z ∉ g
 tf:TO ∉ f
 tg:TO ∉ g
 ig:i ∉ g
 jf:j ∉ f
variable {z TI TO i j:Addr}{f g:List Addr}{ti tj:Nat->Heap->Prop}{vi vj:Nat->Option Value}{k m:Nat}{x y a b:Value}
theorem dO{p q:Addr}{l:List Addr}(hp:p∈l)(hq:q ∉ l):p ≠ q:=λ e=>hq (e ▸ hp)
theorem Src.but{prog:Program}{w:World}{it:Addr}{fr:List Addr}{st:Nat->Heap->Prop}{val:Nat->Option Value}(S:Src prog w it fr st val){k:Nat}{c:Addr}{h h':Heap}(q:st k h)(e:Heap.ExtBut c h h')(hc:c ∉ fr):st k h':=
 S.keep k h h' q λ b hb o ho=>e b o (dO hb hc) ho
theorem vf(S:Src prog w i f ti vi)(T:Src prog w j g tj vj)(D:jx z TI TO i j f g){Q:Value->Shared->Prop}
  (hz:IsZip s.heap z TI TO .none) (hTI:IsPair s.heap TI (.ref i) (.ref j)) (hTO:IsPair s.heap TO a b) (hi:ti k s.heap) (hj:tj m s.heap) (hx:vi k=some x) (hy:vj m=some y)
  (hQ:∀ h',IsZip h' z TI TO (rawInt s.heap.objs.size)->IsPair h' TO x y->ti (k+1) h'->tj (m+1) h'->IsPair h' s.heap.objs.size x y->h'.objs.size=s.heap.objs.size+1->(∀ c o,c ∉ [z,TO,i,j]->s.heap.get? c=some o->h'.get? c=some o)->Q (.ref s.heap.objs.size) { s with heap:=h' }) :
  wpAny (model prog w) A (Builtin.«zip.__next__» ⟨[.ref z],[]⟩) (λ fin s'=>∃ v,fin=.done (.ret v)/\Q v s') E s:=by
 have iz:i ≠ z:=dO S.mem D.zf;have jz:j ≠ z:=dO T.mem D.zg;have iTO:i ≠ TO:=dO S.mem D.tf;have jTO:j ≠ TO:=dO T.mem D.tg;have ij:i ≠ j:=dO S.mem D.jf;refine wpAny_bind (m:=field (.ref z) 2) (wpAny_field hz rfl (x:=.bool false) rfl ?_);refine wpAny_bind (m:=field (.ref z) 3) (wpAny_field hz rfl (x:=.ref TI) rfl (wpAny_bind (wpAny_seqItems hTI rfl ?_)));refine wpAny_bind (m:=Builtin.SmallTypes.ownedTupleIsFree (.ref z)) ?_;unfold Builtin.SmallTypes.ownedTupleIsFree;refine wpAny_bind (wpAny_field hz rfl (x:=.none) rfl (wpAny_pure ?_));simp only [if_true];refine wpAny_bind (wpAny_rule (wpAny_bind (wpAny_field hz rfl (x:=.ref TO) rfl (wpAny_bind (wpAny_setField_rec hz (by simp) λ q1 z1 s1=>?_)))));replace z1:IsZip q1 z TI TO .ellipsis:=z1;refine wpAny_bind ?_;simp only [List.zipIdx_cons,List.zipIdx_nil,List.forIn_cons,List.forIn_nil];refine wpAny_bind (wpAny_bind (wpAny_onRaise (wpAny_bind (m:=Builtin.SmallTypes.nextOf (.ref i)) (S.item _ k _ x _ _ (S.but hi s1.extBut D.zf) hx λ q2 i2 s2=>wpAny_pure ?_))));have o2:IsPair q2 TO a b:=s2.extBut _ _ iTO.symm (s1.extBut _ _ D.zt.symm hTO);refine wpAny_bind (wpAny_seqItems o2 rfl (wpAny_bind (wpAny_updateSeq_pair o2 λ q3 o3 s3=>wpAny_bind (wpAny_letGo (wpAny_pure ?_)))));replace o3:IsPair q3 TO x b:=o3;have j3:tj m q3:=T.but (T.but (T.but hj s1.extBut D.zg) s2.extBut D.ig) s3.extBut D.tg;refine wpAny_bind (wpAny_bind (wpAny_onRaise (wpAny_bind (m:=Builtin.SmallTypes.nextOf (.ref j)) (T.item _ m _ y _ _ j3 hy λ q4 j4 s4=>wpAny_pure ?_))));have o4:IsPair q4 TO x b:=s4.extBut _ _ jTO.symm o3;refine wpAny_bind (wpAny_seqItems o4 rfl (wpAny_bind (wpAny_updateSeq_pair o4 λ q5 o5 s5=>wpAny_bind (wpAny_letGo (wpAny_pure (wpAny_pure ?_))))));replace o5:IsPair q5 TO x y:=o5;refine wpAny_bind (wpAny_seqItems o5 rfl (wpAny_bind (wpAny_newTuple ?_)));have sz:q5.objs.size=s.heap.objs.size:=by rw [s5.1,s4.1,s3.1,s2.1,s1.1]
 have z5:IsZip q5 z TI TO .ellipsis:=s5.extBut _ _ D.zt (s4.extBut _ _ jz.symm (s3.extBut _ _ D.zt (s2.extBut _ _ iz.symm z1)))
 have k5:∀ c o,c ∉ [z,TO,i,j]->s.heap.get? c=some o->q5.get? c=some o:=λ c o hc e=>by
  simp only [KS,K8,LA,not_or] at hc;exact s5.extBut _ _ hc.2.1 (s4.extBut _ _ hc.2.2.2 (s3.extBut _ _ hc.2.1 (s2.extBut _ _ hc.2.2.1 (s1.extBut _ _ hc.1 e))))
 have i5:ti (k+1) q5:=S.but (S.but (S.but i2 s3.extBut D.tf) s4.extBut D.jf) s5.extBut D.tf;have j5:tj (m+1) q5:=T.but j4 s5.extBut D.tg;have zlt:z < q5.objs.size:=Heap.lt_size z5;refine wpAny_bind (m:=Builtin.SmallTypes.ownedTupleHandOut (.ref z) (.ref q5.objs.size)) ?_;unfold Builtin.SmallTypes.ownedTupleHandOut;have z6:IsZip (q5.push { cls:=.type "tuple",data:=.seq #[x,y] }) z TI TO .ellipsis:=Heap.get?_push_of_some _ z5;refine wpAny_bind (wpAny_setField_rec z6 (by simp) λ q7 z7 s7=>?_);replace z7:IsZip q7 z TI TO (rawInt q5.objs.size):=z7;refine wpAny_setField_rec z7 (by simp) λ q8 z8 s8=>?_;replace z8:IsZip q8 z TI TO (rawInt q5.objs.size):=z8;have up:∀ c o,c ≠ z->q5.get? c=some o->q8.get? c=some o:=λ c o hc e=>s8.extBut _ _ hc (s7.extBut _ _ hc (Heap.get?_push_of_some _ e));have t8:IsPair q8 q5.objs.size x y:=s8.extBut _ _ (Nat.ne_of_gt zlt) (s7.extBut _ _ (Nat.ne_of_gt zlt) (Heap.get?_push_size _ rfl));have n8:q8.objs.size=q5.objs.size+1:=by rw [s8.1,s7.1,Heap.size_push]
 rw [sz] at z8 t8 n8;refine Kv ⟨_,rfl,?_⟩
 show Q (.ref q5.objs.size) _
 rw [sz];exact hQ q8 z8 (up _ _ D.zt.symm o5) (S.keep _ _ _ i5 λ c hc o e=>up c o (dO hc D.zf) e) (T.keep _ _ _ j5 λ c hc o e=>up c o (dO hc D.zg) e) t8 n8 λ c o hc e=>up c o (λ q=>hc (by simp [q])) (k5 c o hc e)
theorem xP(hh:A.handled=none)(S:Src prog w i f ti vi)(T:Src prog w j g tj vj)(D:jx z TI TO i j f g){Q:Fin->Shared->Prop}
  (hz:IsZip s.heap z TI TO .none) (hTI:IsPair s.heap TI (.ref i) (.ref j)) (hTO:IsPair s.heap TO a b) (hi:ti k s.heap) (hj:tj m s.heap) (hxy:vi k=none\/vj m=none)
  (hE:∀ h' e,(∀ c o,c ∉ [z,TO,i,j]->s.heap.get? c=some o->h'.get? c=some o)->(∃ o,h'.get? e=some o/\o.cls=.type "StopIteration")->E (.ref e) { s with heap:=h' }) :
  wpAny (model prog w) A (Builtin.«zip.__next__» ⟨[.ref z],[]⟩) Q E s:=by
 have iz:i ≠ z:=dO S.mem D.zf;have jz:j ≠ z:=dO T.mem D.zg;have iTO:i ≠ TO:=dO S.mem D.tf;have jTO:j ≠ TO:=dO T.mem D.tg;refine wpAny_bind (m:=field (.ref z) 2) (wpAny_field hz rfl (x:=.bool false) rfl ?_);refine wpAny_bind (m:=field (.ref z) 3) (wpAny_field hz rfl (x:=.ref TI) rfl (wpAny_bind (wpAny_seqItems hTI rfl ?_)));refine wpAny_bind (m:=Builtin.SmallTypes.ownedTupleIsFree (.ref z)) ?_;unfold Builtin.SmallTypes.ownedTupleIsFree;refine wpAny_bind (wpAny_field hz rfl (x:=.none) rfl (wpAny_pure ?_));simp only [if_true];refine wpAny_bind (wpAny_rule (wpAny_bind (wpAny_field hz rfl (x:=.ref TO) rfl (wpAny_bind (wpAny_setField_rec hz (by simp) λ q1 z1 s1=>?_)))));replace z1:IsZip q1 z TI TO .ellipsis:=z1;refine wpAny_bind ?_;simp only [List.zipIdx_cons,List.zipIdx_nil,List.forIn_cons,List.forIn_nil];refine wpAny_bind (wpAny_bind (wpAny_onRaise (wpAny_bind (m:=Builtin.SmallTypes.nextOf (.ref i)) ?_)))
 cases hx:vi k with
 | none=>
  refine S.fin _ k _ _ _ hh (S.but hi s1.extBut D.zf) hx λ q2 e s2 ⟨oe,he,hce⟩=>?_;have z2:IsZip q2 z TI TO .ellipsis:=s2 _ _ iz.symm z1;have ez:e ≠ z:=λ q=>by subst q;rw [z2] at he;cases he;simp at hce
  refine LK z2 (by simp) λ q3 _ s3=>hE q3 e (λ c o hc q=>?_) ⟨oe,s3.extBut _ _ ez he,hce⟩;simp only [KS,K8,LA,not_or] at hc;exact s3.extBut _ _ hc.1 (s2 _ _ hc.2.2.1 (s1.extBut _ _ hc.1 q))
 | some x=>
  have hy:vj m=none:=hxy.resolve_left (by rw [hx];exact Option.some_ne_none x);refine S.item _ k _ x _ _ (S.but hi s1.extBut D.zf) hx λ q2 i2 s2=>Kv ?_;have o2:IsPair q2 TO a b:=s2.extBut _ _ iTO.symm (s1.extBut _ _ D.zt.symm hTO);refine Kl (LH o2 rfl (Kl (M5 o2 λ q3 o3 s3=>Kl (wpAny_letGo (Kv ?_)))));have j3:tj m q3:=T.but (T.but (T.but hj s1.extBut D.zg) s2.extBut D.ig) s3.extBut D.tg;refine Kl (Kl (Ni (Kl (m:=Builtin.SmallTypes.nextOf (.ref j)) (T.fin _ m _ _ _ hh j3 hy λ q4 e s4 ⟨oe,he,hce⟩=>?_))));have z4:IsZip q4 z TI TO .ellipsis:=s4 _ _ jz.symm (s3.extBut _ _ D.zt (s2.extBut _ _ iz.symm z1));have ez:e ≠ z:=λ q=>by subst q;rw [z4] at he;cases he;simp at hce
  refine LK z4 (by simp) λ q5 _ s5=>hE q5 e (λ c o hc q=>?_) ⟨oe,s5.extBut _ _ ez he,hce⟩;simp only [KS,K8,LA,not_or] at hc;exact s5.extBut _ _ hc.1 (s4 _ _ hc.2.2.2 (s3.extBut _ _ hc.2.1 (s2.extBut _ _ hc.2.2.1 (s1.extBut _ _ hc.1 q))))
theorem jm(S:Src prog w i f ti vi)(T:Src prog w j g tj vj)(D:jx z TI TO i j f g){Q:Option Value->Shared->Prop}
  (hz:IsZip s.heap z TI TO .none) (hTI:IsPair s.heap TI (.ref i) (.ref j)) (hTO:IsPair s.heap TO a b) (hi:ti k s.heap) (hj:tj m s.heap) (hx:vi k=some x) (hy:vj m=some y)
  (hQ:∀ h',IsZip h' z TI TO (rawInt s.heap.objs.size)->IsPair h' TO x y->ti (k+1) h'->tj (m+1) h'->IsPair h' s.heap.objs.size x y->h'.objs.size=s.heap.objs.size+1->(∀ c o,c ∉ [z,TO,i,j]->s.heap.get? c=some o->h'.get? c=some o)->Q (some (.ref s.heap.objs.size)) { s with heap:=h' }) :
  wpAny (model prog w) A (pyNext (.ref z)) Q E s:=by
 have ty:s.TypeIs (.ref z) "zip":=⟨_,hz,rfl⟩;unfold pyNext;exact wpAny_bind (wpAny_attempt (wpAny_callSpecial?_slot (name:=Str.ofString "__next__") ty F.slot_zip_next (wpAny_call_entry F.slot_zip_next ty F.entry_zip_next (vf S T D hz hTI hTO hi hj hx hy λ h' c1 c2 c3 c4 c5 c6 c7=>wpAny_pure (hQ h' c1 c2 c3 c4 c5 c6 c7)) (F.args_zip_next_1 _))))
theorem lA(hh:A.handled=none)(S:Src prog w i f ti vi)(T:Src prog w j g tj vj)(D:jx z TI TO i j f g){Q:Option Value->Shared->Prop}
  (hz:IsZip s.heap z TI TO .none) (hTI:IsPair s.heap TI (.ref i) (.ref j)) (hTO:IsPair s.heap TO a b) (hi:ti k s.heap) (hj:tj m s.heap) (hxy:vi k=none\/vj m=none)
  (hQ:∀ h',(∀ c o,c ∉ [z,TO,i,j]->s.heap.get? c=some o->h'.get? c=some o)->Q none { s with heap:=h' }):wpAny (model prog w) A (pyNext (.ref z)) Q E s:=by
 have ty:s.TypeIs (.ref z) "zip":=⟨_,hz,rfl⟩;unfold pyNext;refine wpAny_bind (wpAny_attempt (wpAny_callSpecial?_slot (name:=Str.ofString "__next__") ty F.slot_zip_next (wpAny_call_entry F.slot_zip_next ty F.entry_zip_next (xP (show A.in1.handled=none from hh) S T D hz hTI hTO hi hj hxy λ h' e kp he=>?_) (F.args_zip_next_1 _))));obtain⟨o,ho,hc⟩:=he;exact wpAny_bind (wpAny_isInstance (T := "StopIteration") (b:=true) ⟨o,ho,hc⟩ isSubtype_stop (wpAny_pure (hQ _ kp)))
end
def SeqAt(h:Heap)(k:Bool)(l:Addr)(xs:Array Value):Prop:=match k with
 | true=>h.IsTuple l xs
 | false=>h.IsList l xs
def cL(h:Heap)(k:Bool)(it l:Addr)(n:Nat):Prop:=match k with
 | true=>h.IsTupleIter it l n
 | false=>h.IsListIter it l n
def xK(k:Bool)(l:Addr):Obj:=match k with
 | true=>{ cls:=.type "tuple_iterator",data:=.fields #[.ref l,.int 0 0] }
 | false=>{ cls:=.type "list_iterator",data:=.fields #[.ref l,.int 0 0] }
theorem SeqAt.at{h h':Heap}{k:Bool}{l:Addr}{xs:Array Value}(q:SeqAt h k l xs)(e:∀ o,h.get? l=some o->h'.get? l=some o):SeqAt h' k l xs:=by
 cases k
 ·exact Heap.IsList.at q e
 ·exact Heap.IsTuple.at q e
theorem cL.at{h h':Heap}{k:Bool}{it l:Addr}{n:Nat}(q:cL h k it l n)(e:∀ o,h.get? it=some o->h'.get? it=some o):cL h' k it l n:=by
 cases k
 ·exact Heap.IsListIter.at q e
 ·exact Heap.IsTupleIter.at q e
theorem cL.obj{h:Heap}{k:Bool}{it l:Addr}{n:Nat}(q:cL h k it l n):∃ o fs,h.get? it=some o/\o.data=.fields fs:=by
 cases k
 ·obtain⟨o,e,_,d⟩:=(show h.IsListIter it l n from q);exact⟨o,_,e,d⟩
 ·obtain⟨o,e,_,d⟩:=(show h.IsTupleIter it l n from q);exact⟨o,_,e,d⟩
theorem pJ{prog:Program}{w:World}(k:Bool)(it l:Addr)(hne:l ≠ it)(xs:Array Value):Src prog w it [it,l] (λ n h=>cL h k it l n/\SeqAt h k l xs) (λ n=>xs[n]?):=by
 cases k
 ·exact xV it l hne xs
 ·exact Be it l hne xs
section
variable {prog:Program}{w:World}{A:Around}{E:Value->Shared->Prop}{s:Shared}
theorem uS{k:Bool}{l:Addr}{xs:Array Value}{Q:Value->Shared->Prop}(h:SeqAt s.heap k l xs)(hQ:Q (.ref s.heap.objs.size) { s with heap:=s.heap.push (xK k l) }):wpAny (model prog w) A (pyIter (.ref l)) Q E s:=by
 cases k
 ·exact MG h hQ
 ·exact wpAny_pyIter_tuple h hQ
abbrev zq1(ka:Bool)(a:Addr)(h:Heap):Heap:=h.push (xK ka a)
abbrev zq2(ka kb:Bool)(a b:Addr)(h:Heap):Heap:=(zq1 ka a h).push (xK kb b)
abbrev zq3(ka kb:Bool)(a b:Addr)(h:Heap):Heap:=(zq2 ka kb a b h).push { cls:=.type "tuple",data:=.seq #[.ref h.objs.size,.ref (zq1 ka a h).objs.size] }
abbrev zq4(ka kb:Bool)(a b:Addr)(h:Heap):Heap:=(zq3 ka kb a b h).push { cls:=.type "tuple",data:=.seq #[.none,.none] }
abbrev zq5(ka kb:Bool)(a b:Addr)(h:Heap):Heap:=(zq4 ka kb a b h).push { cls:=.type "zip",data:=.fields #[.none,.bool false,.bool false,.ref (zq2 ka kb a b h).objs.size,.ref (zq3 ka kb a b h).objs.size] }
theorem ve(ka kb:Bool)(a b:Addr)(xs ys:Array Value):Meets (Builtin.«zip.__new__» ⟨[.type "zip",.ref a,.ref b],[]⟩) (λ _ R s=>SeqAt s.heap ka a xs/\SeqAt s.heap kb b ys/\R (.ok (.ret (.ref (zq4 ka kb a b s.heap).objs.size))) { s with heap:=zq5 ka kb a b s.heap }):=
 .of_wp λ prog w A R s h=>by
  obtain⟨hp,g,d,tk,os⟩:=s;obtain⟨h1,h2,h⟩:=h;have hsub:=sub_zip;have q1:SeqAt (Shared.heap ⟨hp,g,d,tk,os⟩) ka a xs:=h1;have q2:SeqAt (Shared.heap ⟨hp.push (xK ka a),g,d,tk,os⟩) kb b ys:=h2.at λ o e=>Kn _ e
  wp_walk using uS q1,uS q2
  exact⟨_,rfl,h⟩
theorem C9{ka kb:Bool}{a b:Addr}{xs ys:Array Value}{Q:Value->Shared->Prop}(h1:SeqAt s.heap ka a xs)(h2:SeqAt s.heap kb b ys)
  (h:∀ h' n,n=s.heap.objs.size->IsZip h' (n+4) (n+2) (n+3) .none->IsPair h' (n+2) (.ref n) (.ref (n+1))->IsPair h' (n+3) .none .none->cL h' ka n a 0->cL h' kb (n+1) b 0->h'.objs.size=n+5->(∀ c o,s.heap.get? c=some o->h'.get? c=some o)->Q (.ref (n+4)) { s with heap:=h' }) :
  wpAny (model prog w) A (call (.type "zip") [.ref a,.ref b]) Q E s:=by
 refine callType_new F.called_zip (by decide) (F.typeCall_zip_2 _ _) (F.newCall_zip_2 _ _) (λ ob=>F.args_object_init_3 ob _ _) F.entry_zip_new (ve ka kb a b xs ys) ⟨h1,h2,?_⟩;have n1:(zq1 ka a s.heap).objs.size=s.heap.objs.size+1:=Lr ..;have n2:(zq2 ka kb a b s.heap).objs.size=s.heap.objs.size+2:=by rw [Lr,n1]
 have n3:(zq3 ka kb a b s.heap).objs.size=s.heap.objs.size+3:=by rw [Lr,n2]
 have n4:(zq4 ka kb a b s.heap).objs.size=s.heap.objs.size+4:=by rw [Lr,n3]
 have n5:(zq5 ka kb a b s.heap).objs.size=s.heap.objs.size+5:=by rw [Lr,n4]
 have f1:cL (zq1 ka a s.heap) ka s.heap.objs.size a 0:=by
  cases ka<;>exact⟨_,Kz _ rfl,rfl,rfl⟩
 have f2:cL (zq2 ka kb a b s.heap) kb (zq1 ka a s.heap).objs.size b 0:=by
  cases kb<;>exact⟨_,Kz _ rfl,rfl,rfl⟩
 have u2:∀ c o,(zq2 ka kb a b s.heap).get? c=some o->(zq5 ka kb a b s.heap).get? c=some o:=λ c o e=>Kn _ (Kn _ (Kn _ e));have g5:(zq5 ka kb a b s.heap).get? (zq4 ka kb a b s.heap).objs.size=some _:=Kz _ rfl;have g4:(zq5 ka kb a b s.heap).get? (zq3 ka kb a b s.heap).objs.size=some _:=Kn _ (Kz _ rfl);have g3:(zq5 ka kb a b s.heap).get? (zq2 ka kb a b s.heap).objs.size=some _:=Kn _ (Kn _ (Kz _ rfl));have e1:cL (zq5 ka kb a b s.heap) ka s.heap.objs.size a 0:=f1.at λ o e=>u2 _ o (Kn _ e);have e2:cL (zq5 ka kb a b s.heap) kb (zq1 ka a s.heap).objs.size b 0:=f2.at λ o e=>u2 _ o e
 show _/\_
 rw [n2,n3,n4] at g5;rw [n1,n2] at g3;rw [n3] at g4;rw [n1] at e2;rw [n4];exact⟨⟨_,g5,rfl⟩,h _ _ rfl g5 g3 g4 e1 e2 n5 λ c o e=>u2 c o (Kn _ (Kn _ e))⟩
end
section
variable {X:Cx}{pins:List (Addr × Obj)}{σ:List (Option V)}{H:Hp}{s:Shared}{h':Heap}
theorem Inv.turnNew{t':Nat}{ch:List Addr}{n:Addr}{o:HO}(I:Inv X pins σ H s)(hch:∀ b∈ch,nO X pins H b)(k:∀ b ob,b ∉ ch->s.heap.get? b=some ob->h'.get? b=some ob)(hn:s.heap.objs.size<=n)(new:b5 X.prog X.w (upd H n o) h' n o) :
  Inv X pins σ (upd H n o) { s with heap:=h',toks:=t' }:=by
 have fn:=I.hok.fresh hn;have up:∀ {b u},H b=some u->upd H n o b=some u:=λ {b u} e=>by rw [ak (bK e fn)];exact e
 have nch:∀ {b u},H b=some u->b ∉ ch:=λ {b u} e z=>by rw [(hch b z).1] at e;cases e
 refine I.step (g':=s.gens) (d':=s.drawn) (ch:=ch) (λ b hb=>⟨(hch b hb).2.2.2.1,(hch b hb).2.1,(hch b hb).2.2.2.2.1,(hch b hb).2.2.2.2.2⟩) (λ b ob _ _ hc e _=>k b ob hc e) (λ b ob _ _ hc e _=>⟨ob.slots,k b ob hc e⟩)
  (λ b ob _ e q=>?_) (λ b ob hc e=>⟨ob,k b ob hc e⟩) (λ _ _ e=>up e) (λ _ _ _ e=>up e) (λ b ps e=>⟨#[],by rw [up e];simp⟩) (λ m hm=>?_) (λ b u e=>?_) I.bare
 ·rw [ak (KL (KC (Kt e) hn))];exact q
 ·obtain⟨ol,es,ep,ho,r⟩:=hm;exact⟨ol,es,ep,k _ ol (λ z=>(hch _ z).2.1 rfl) ho,r⟩
 ·by_cases hb:b=n
  ·subst hb;rw [aj] at e;cases e;exact new
  ·rw [ak hb] at e;refine(I.hok b u e).stay (λ c v hc q=>k c v ?_ q) (λ c q=>up q) λ c xs q=>up q
   rcases hc with rfl|hc
   ·exact nch e
   ·exact nch hc
theorem Inv.turnL{t':Nat}{ch:List Addr}(I:Inv X pins σ H s)(hch:∀ b∈ch,nO X pins H b)(k:∀ b ob,b ∉ ch->s.heap.get? b=some ob->h'.get? b=some ob):Inv X pins σ H { s with heap:=h',toks:=t' }:=by
 have nch:∀ {b u},H b=some u->b ∉ ch:=λ {b u} e z=>by rw [(hch b z).1] at e;cases e
 refine I.step (g':=s.gens) (d':=s.drawn) (ch:=ch) (λ b hb=>⟨(hch b hb).2.2.2.1,(hch b hb).2.1,(hch b hb).2.2.2.2.1,(hch b hb).2.2.2.2.2⟩) (λ b ob _ _ hc e _=>k b ob hc e) (λ b ob _ _ hc e _=>⟨ob.slots,k b ob hc e⟩)
  (λ _ _ _ _ q=>q) (λ b ob hc e=>⟨ob,k b ob hc e⟩) (λ _ _ e=>e) (λ _ _ _ e=>e) (λ b ps e=>⟨#[],by rw [e];simp⟩) (λ m hm=>?_) (λ b u e=>?_) I.bare
 ·obtain⟨ol,es,ep,ho,r⟩:=hm;exact⟨ol,es,ep,k _ ol (λ z=>(hch _ z).2.1 rfl) ho,r⟩
 ·refine(I.hok b u e).stay (λ c v hc q=>k c v ?_ q) (λ _ q=>q) λ _ _ q=>q
  rcases hc with rfl|hc
  ·exact nch e
  ·exact nch hc
end
def SqK(k:Bool)(H:Hp)(a:Addr)(xs:List V):Prop:=match k with
 | true=>H a=some (.tup xs)
 | false=>H a=some (.lst xs)
theorem SqK.ne{k:Bool}{H:Hp}{a b:Addr}{xs:List V}(h:SqK k H a xs)(e:H b=none):a ≠ b:=λ z=>by
 subst z;cases k
 ·rw [show H a=some (.lst xs) from h] at e;cases e
 ·rw [show H a=some (.tup xs) from h] at e;cases e
theorem Inv.sq{X:Cx}{pins:List (Addr × Obj)}{σ:St}{H:Hp}{s:Shared}{k:Bool}{a:Addr}{xs:List V}(I:Inv X pins σ H s)(h:SqK k H a xs):∃ its:List Value,aX xs its/\SeqAt s.heap k a its.toArray:=by
 cases k
 ·obtain⟨its,r,p,_⟩:=I.list (SqL.of h);exact⟨its,r,p.isList⟩
 ·obtain⟨its,r,p,_⟩:=I.tuple (SqT.of h);exact⟨its,r,p⟩
def Itz(ka kb:Bool)(a b:Addr)(xs ys:List V):It:=
 ⟨λ i H=>SqK ka H a xs/\SqK kb H b ys/\i < xs.length/\i < ys.length,λ i H x H'=>∃ p u v,H p=none/\x=.ref p/\xs[i]? = some u/\ys[i]? = some v/\H'=upd H p (.tup [u,v]),λ i H=>SqK ka H a xs/\SqK kb H b ys/\(xs.length<=i\/ys.length<=i)⟩
def Tnz(ka kb:Bool)(a b z TI TO p q:Addr)(i:Nat)(h:Heap):Prop:=IsZip h z TI TO .none/\IsPair h TI (.ref p) (.ref q)/\(∃ u v,IsPair h TO u v)/\cL h ka p a i/\cL h kb q b i
theorem xT{P:Program}{w:World}{K:W.Frag}{elts:List Expr}{x1}{tp:Pos}(ka kb:Bool)(a b z TI TO p q:Addr)(xs ys:List V)(nd:[z,TI,TO,p,q].Nodup):zS P w K (.Tuple elts x1 tp) (Itz ka kb a b xs ys) [z,TI,TO,p,q] z (Tnz ka kb a b z TI TO p q) where
 mem:=Kp
 obj:=λ i h st c hc=>by
  obtain⟨e1,e2,⟨u,v,e3⟩,e4,e5⟩:=st;simp only [KS,K8,LA] at hc
  rcases hc with rfl|rfl|rfl|rfl|rfl
  ·exact⟨_,e1,λ v z=>by cases z⟩
  ·exact⟨_,e2,λ v z=>by cases z⟩
  ·exact⟨_,e3,λ v z=>by cases z⟩
  ·obtain⟨o,fs,e,d⟩:=e4.obj;exact⟨o,e,λ v z=>by rw [d] at z;cases z⟩
  ·obtain⟨o,fs,e,d⟩:=e5.obj;exact⟨o,e,λ v z=>by rw [d] at z;cases z⟩
 keep:=λ i h h' st k=>by
  obtain⟨e1,e2,⟨u,v,e3⟩,e4,e5⟩:=st;exact⟨k z (by simp) _ e1,k TI (by simp) _ e2,⟨u,v,k TO (by simp) _ e3⟩,e4.at λ o e=>k p (by simp) o e,e5.at λ o e=>k q (by simp) o e⟩
 item:=by
  intro X hP hw hK hc i pins s σ H E I hf st hg;subst hP hw hK;obtain⟨e1,e2,⟨u0,v0,e3⟩,e4,e5⟩:=st;obtain⟨ha,hb,l1,l2⟩:=hg;obtain⟨as,ra,sa⟩:=I.sq ha;obtain⟨bs,rb,sb⟩:=I.sq hb;have hx:xs[i]? = some xs[i]:=Kk l1;have hy:ys[i]? = some ys[i]:=Kk l2;obtain⟨u,hu,ru⟩:=ra.get hx;obtain⟨v,hv,rv⟩:=rb.get hy;have free:∀ c∈[z,TI,TO,p,q],H c=none:=λ c h=>(hf c h).1;have naz:∀ c∈[z,TI,TO,p,q],a ≠ c:=λ c h=>ha.ne (free c h);have nbz:∀ c∈[z,TI,TO,p,q],b ≠ c:=λ c h=>hb.ne (free c h);simp only [Lb,KS,K8,LA,not_or,not_false_eq_true,and_true,MQ] at nd;obtain⟨⟨z1,z2,z3,z4⟩,⟨t1,t2,t3⟩,⟨w1,w2⟩,y1⟩:=nd;have S:=pJ (prog:=X.prog) (w:=X.w) ka p a (naz p (by simp)) as.toArray;have T:=pJ (prog:=X.prog) (w:=X.w) kb q b (nbz q (by simp)) bs.toArray;have D:jx z TI TO p q [p,a] [q,b]:=⟨⟨K6 z1,t1,t2,t3⟩,z2,by simp [z3,K6 (naz z (by simp))],by simp [z4,K6 (nbz z (by simp))],by simp [w1,K6 (naz TO (by simp))],by simp [w2,K6 (nbz TO (by simp))],by simp [y1,K6 (nbz p (by simp))],by simp [K6 y1,K6 (naz q (by simp))]⟩;refine jm S T D e1 e2 e3 ⟨e4,sa⟩ ⟨e5,sb⟩ (x:=u) (y:=v) (by simpa using hu) (by simpa using hv) λ h1 c1 c2 c3 c4 c5 c6 c7=>?_;refine⟨_,rfl,wpAny_letOwnedTupleGo_zip (s:={ s with heap:=h1 }) c1 λ h2 d1 d2=>?_⟩;have lt:z < s.heap.objs.size:=Kt e1;have kp:∀ c o,c ∉ [z,TO,p,q]->s.heap.get? c=some o->h2.get? c=some o:=λ c o hc e=>d2.extBut _ _ (λ q=>hc (by simp [q])) (c7 c o hc e);have hn:h2.get? s.heap.objs.size=some { cls:=.type "tuple",data:=.seq #[u,v] }:=d2.extBut _ _ (ML lt) c5;have I2:Inv X pins σ (upd H s.heap.objs.size (.tup [xs[i],ys[i]])) { s with heap:=h2 }:=I.turnNew (t':=s.toks) (ch:=[z,TO,p,q]) (λ c hc=>hf c (by simp only [KS,K8,LA] at hc ⊢;rcases hc with h|h|h|h<;>simp [h])) kp (Kq _) ⟨(show 2<=sizeLine by decide),[u,v],.cons ru (.cons rv .nil),⟨_,hn,rfl,_,rfl⟩⟩;have fr:H s.heap.objs.size=none:=I.hok.fresh (Kq _);refine⟨.ref s.heap.objs.size,_,I2,rfl,⟨_,_,_,fr,rfl,hx,hy,rfl⟩,⟨d1,d2.extBut _ _ (K6 z1) (c7 TI _ (by simp [K6 z1,t1,t2,t3]) e2),⟨u,v,d2.extBut _ _ (K6 z2) c2⟩,c3.1.at λ o e=>d2.extBut _ _ (K6 z3) e,c4.1.at λ o e=>d2.extBut _ _ (K6 z4) e⟩,λ c hc=>?_⟩
  obtain⟨o,ho,_⟩:∃ o,s.heap.get? c=some o/\True:=by
   simp only [KS,K8,LA] at hc
   rcases hc with rfl|rfl|rfl|rfl|rfl
   ·exact⟨_,e1,trivial⟩
   ·exact⟨_,e2,trivial⟩
   ·exact⟨_,e3,trivial⟩
   ·obtain⟨o,_,e,_⟩:=e4.obj;exact⟨o,e,trivial⟩
   ·obtain⟨o,_,e,_⟩:=e5.obj;exact⟨o,e,trivial⟩
  rw [ak (KL (Kt ho))];exact free c hc
 done:=by
  intro X hP hw hK hc i pins s σ H E I hf st hg;subst hP hw hK;obtain⟨e1,e2,⟨u0,v0,e3⟩,e4,e5⟩:=st;obtain⟨ha,hb,l⟩:=hg;obtain⟨as,ra,sa⟩:=I.sq ha;obtain⟨bs,rb,sb⟩:=I.sq hb;have free:∀ c∈[z,TI,TO,p,q],H c=none:=λ c h=>(hf c h).1;have naz:∀ c∈[z,TI,TO,p,q],a ≠ c:=λ c h=>ha.ne (free c h);have nbz:∀ c∈[z,TI,TO,p,q],b ≠ c:=λ c h=>hb.ne (free c h);simp only [Lb,KS,K8,LA,not_or,not_false_eq_true,and_true,MQ] at nd;obtain⟨⟨z1,z2,z3,z4⟩,⟨t1,t2,t3⟩,⟨w1,w2⟩,y1⟩:=nd;have S:=pJ (prog:=X.prog) (w:=X.w) ka p a (naz p (by simp)) as.toArray;have T:=pJ (prog:=X.prog) (w:=X.w) kb q b (nbz q (by simp)) bs.toArray;have D:jx z TI TO p q [p,a] [q,b]:=⟨⟨K6 z1,t1,t2,t3⟩,z2,by simp [z3,K6 (naz z (by simp))],by simp [z4,K6 (nbz z (by simp))],by simp [w1,K6 (naz TO (by simp))],by simp [w2,K6 (nbz TO (by simp))],by simp [y1,K6 (nbz p (by simp))],by simp [K6 y1,K6 (naz q (by simp))]⟩;have la:=ra.length;have lb:=rb.length;refine lA (I.ok.hd hc) S T D e1 e2 e3 ⟨e4,sa⟩ ⟨e5,sb⟩ (l.imp (λ h=>by simp;omega) λ h=>by simp;omega) λ h1 kp=>⟨rfl,I.turnL (t':=s.toks) (ch:=[z,TO,p,q]) (λ c hc=>hf c (by simp only [KS,K8,LA] at hc ⊢;rcases hc with h|h|h|h<;>simp [h])) kp⟩
 self:=λ _ _ _ _ _ st h=>wpAny_pyIter_zip st.1 h
def kZ2(ka:Bool)(a b:Addr)(xs:List V)(H:Hp)(R:It->Hp->Prop):HO->Prop:=λ o=>match o with
 | .lst ys=>R (Itz ka false a b xs ys) H
 | .tup ys=>R (Itz ka true a b xs ys) H
 | _=>False
theorem B8(ka:Bool)(a b:Addr)(xs ys:List V)(H:Hp)(R:It->Hp->Prop):kZ2 ka a b xs H R (.lst ys)=R (Itz ka false a b xs ys) H:=rfl
def kZ1(a b:Addr)(H:Hp)(R:It->Hp->Prop):HO->Prop:=λ o=>match o with
 | .lst xs=>aS (H b) (kZ2 false a b xs H R)
 | .tup xs=>aS (H b) (kZ2 true a b xs H R)
 | _=>False
theorem Ca(a b:Addr)(xs:List V)(H:Hp)(R:It->Hp->Prop):kZ1 a b H R (.lst xs)=aS (H b) (kZ2 false a b xs H R):=rfl
theorem B9(a b:Addr)(xs:List V)(H:Hp)(R:It->Hp->Prop):kZ1 a b H R (.tup xs)=aS (H b) (kZ2 true a b xs H R):=rfl
def kZ0(R:It->Hp->Prop):List V->Hp->Prop:=λ vs H=>match vs with
 | [.ref a,.ref b]=>aS (H a) (kZ1 a b H R)
 | _=>False
theorem Ij(R:It->Hp->Prop)(a b:Addr)(H:Hp):kZ0 R [.ref a,.ref b] H=aS (H a) (kZ1 a b H R):=rfl
def JF(ta:TA):TI:=λ σ H R=>ta σ H (kZ0 R)
theorem Ge(ta:TA)(σ:St)(H:Hp)(R:It->Hp->Prop):JF ta σ H R=ta σ H (kZ0 R):=rfl
theorem Gq{R:It->Hp->Prop}{vs:List V}{H:Hp}(h:kZ0 R vs H):∃ a b ka kb xs ys,vs=[.ref a,.ref b]/\SqK ka H a xs/\SqK kb H b ys/\R (Itz ka kb a b xs ys) H:=by
 unfold kZ0 at h;split at h
 ·rename_i a b;obtain⟨o,e,h⟩:=av h;unfold kZ1 at h;split at h
  ·rename_i xs;obtain⟨o',e',h⟩:=av h;unfold kZ2 at h;split at h
   ·exact⟨a,b,false,false,xs,_,rfl,e,e',h⟩
   ·exact⟨a,b,false,true,xs,_,rfl,e,e',h⟩
   ·exact h.elim
  ·rename_i xs;obtain⟨o',e',h⟩:=av h;unfold kZ2 at h;split at h
   ·exact⟨a,b,true,false,xs,_,rfl,e,e',h⟩
   ·exact⟨a,b,true,true,xs,_,rfl,e,e',h⟩
   ·exact h.elim
  ·exact h.elim
 ·exact h.elim
section
variable {X:Cx}
theorem Ew{a b:Expr}{elts:List Expr}{x1}{tp:Pos}{ta:TA}{p pos:Pos}(hg:Gl X "zip")(hm:X.mg "zip"=none)(ha:PA X [a,b] ta)(hs:starEach [a,b] X.env=[(false,eval a X.env),(false,eval b X.env)]:=by rfl)(hs2:starEach [b] X.env=[(false,eval b X.env)]:=by rfl) :
  PI X (.Tuple elts x1 tp) (.Call (.Name "zip" p) [a,b] [] pos) (JF ta):=by
 intro pins s σ H R I h;refine Call_ (ic I hg hm (show bootBuiltins "zip"=some (.type "zip") by decide +kernel) (LF (thn (ha pos pins s σ H _ I h) λ us s1 ⟨vs,H1,I1,r1,q1⟩=>?_) (by rw [hs,hs2]) (by rw [hs2];rfl)));obtain⟨a,b,ka,kb,xs,ys,rfl,sa,sb,q⟩:=Gq q1
 cases r1 with
 | cons r rr=>
  cases rr with
  | cons r' rr=>
   cases rr;cases r;cases r';obtain⟨as,ra,s1a⟩:=I1.sq sa;obtain⟨bs,rb,s1b⟩:=I1.sq sb;refine C9 s1a s1b λ h' n hn e1 e2 e3 e4 e5 e6 e7=>?_;have I2:Inv X pins σ H1 { s1 with heap:=h' }:=I1.kept (t':=s1.toks) e7;refine wpAny_pyIter_zip (s:={ s1 with heap:=h' }) e1 ⟨n+4,[n+4,n+2,n+3,n,n+1],_,_,H1,rfl,I2,xT ka kb a b (n+4) (n+2) (n+3) n (n+1) xs ys (by simp),⟨e1,e2,⟨_,_,e3⟩,e4,e5⟩,λ c hc=>?_,q⟩
   have hle:s1.heap.objs.size<=c:=by
    rw [←hn];simp only [KS,K8,LA] at hc
    rcases hc with rfl|rfl|rfl|rfl|rfl
    ·exact Ma ..
    ·exact Ma ..
    ·exact Ma ..
    ·exact Kq _
    ·exact Ma ..
   exact I1.fpOk hle (I1.hok.fresh hle)
end
def Dx(te:TE)(σ2:St)(N1:VK)(N0:Hp->Prop):Bool->Hp->Prop:=λ b H=>if b=true then te σ2 H N1 else N0 H
theorem aI(te:TE)(σ2:St)(N1:VK)(N0:Hp->Prop)(b:Bool)(H:Hp):Dx te σ2 N1 N0 b H=(if b=true then te σ2 H N1 else N0 H):=rfl
def kCm(k:Nat)(tt:TT)(te:TE)(σ:St)(N1:VK)(N0:Hp->Prop):St->Hp->Prop:=λ σ2 H=>(∃ vs:St,vs.length=k/\σ2=vs++σ)/\tt σ2 H (Dx te σ2 N1 N0)
theorem aL(tt:TT)(te:TE)(σ:St)(N1:VK)(N0:Hp->Prop)(a:Option V)(H:Hp):kCm 1 tt te σ N1 N0 (a::σ) H=tt (a::σ) H (Dx te (a::σ) N1 N0):=propext ⟨λ h=>h.2,λ h=>⟨⟨[a],rfl,rfl⟩,h⟩⟩
theorem bP(tt:TT)(te:TE)(σ:St)(N1:VK)(N0:Hp->Prop)(a b:Option V)(H:Hp):kCm 2 tt te σ N1 N0 (a::b::σ) H=tt (a::b::σ) H (Dx te (a::b::σ) N1 N0):=propext ⟨λ h=>h.2,λ h=>⟨⟨[a,b],rfl,rfl⟩,h⟩⟩
theorem BX(σ:St):List.replicate 1 (none:Option V)++σ=none::σ:=rfl
theorem BW(σ:St):List.replicate 2 (none:Option V)++σ=none::none::σ:=rfl
theorem BV(σ:St):List.replicate 3 (none:Option V)++σ=none::none::none::σ:=rfl
theorem uQ(tt:TT)(te:TE)(σ:St)(N1:VK)(N0:Hp->Prop)(a b c:Option V)(H:Hp):kCm 3 tt te σ N1 N0 (a::b::c::σ) H=tt (a::b::c::σ) H (Dx te (a::b::c::σ) N1 N0):=propext ⟨λ h=>h.2,λ h=>⟨⟨[a,b,c],rfl,rfl⟩,h⟩⟩
def Al{α:Type}(R:α->V->Prop)(zs:List α)(ys:List V):Prop:=ys.length=zs.length/\∀ (i:Nat) z y,zs[i]? = some z->ys[i]? = some y->R z y
theorem Al.nil{α:Type}{R:α->V->Prop}:Al R [] []:=⟨rfl,λ i z y h=>by simp at h⟩
theorem Al.snoc{α:Type}{R:α->V->Prop}{zs:List α}{ys:List V}{z:α}{y:V}(h:Al R zs ys)(r:R z y):Al R (zs++[z]) (ys++[y]):=by
 refine⟨by simp [h.1],λ i z' y' h1 h2=>?_⟩
 by_cases hi:i < zs.length
 ·rw [Lc hi] at h1;rw [Lc (by rw [h.1];exact hi)] at h2;exact h.2 i z' y' h1 h2
 ·rw [KR (by omega)] at h1;rw [KR (by rw [h.1];omega),h.1] at h2
  by_cases h0:i - zs.length=0
  ·rw [h0] at h1 h2;simp at h1 h2;subst h1;subst h2;exact r
  ·rw [LG (by simp;omega)] at h1;cases h1
theorem Al.imp{α:Type}{R S:α->V->Prop}{zs:List α}{ys:List V}(h:Al R zs ys)(f:∀ z y,R z y->S z y):Al S zs ys:=⟨h.1,λ i z y a b=>f z y (h.2 i z y a b)⟩
theorem Al.map{α:Type}{f:α->V}{zs:List α}{ys:List V}(h:Al (λ z y=>y=f z) zs ys):ys=zs.map f:=by
 apply List.ext_getElem?;intro i;rw [KH]
 by_cases hi:i < zs.length
 ·have e1:zs[i]? = some zs[i]:=Kk hi;have e2:ys[i]? = some (ys[i]'(by rw [h.1];exact hi)):=Kk _;rw [e1,e2,h.2 i _ _ e1 e2];rfl
 ·have:=h.1;rw [LG (show ys.length<=i by omega),LG (show zs.length<=i by omega)];rfl
section
variable {k:Nat}{g:TG}{tt:TT}{te:TE}{σ:St}{Q:VK}{H:Hp}{K:PySem.W.Frag}
theorem qr{α:Type}{J:It}(zs:List α)(c:α->Bool)(P:α->V->Hp->Prop)(R:Addr->α->V->Hp->Prop)
  (hgo:∀ i z H',zs[i]? = some z->Ext H H'->J.go i H'/\∀ x H'',J.yld i H' x H''->Ext H' H''/\P z x H'')
  (hst:∀ H',Ext H H'->J.stop zs.length H')
  (hR1:∀ D z y H1 H2,R D z y H1->Ext H1 H2->R D z y H2) (hR2:∀ D z y H1 o,R D z y H1->R D z y (upd H1 D o))
  (hl:zs.length<=sizeLine)
  (hs:∀ D z x H' N1 N0,z∈zs->H D=none->Ext H H'->(∃ ys,H' D=some (.lst ys))->P z x H'->(c z=true->∀ y H'',Ext H' H''->R D z y H''->N1 y H'')->(c z=false->∀ H'',Ext H' H''->N0 H'')->g x (List.replicate k none++σ) H' (kCm k tt te σ N1 N0))
  (hd:∀ D ys H',H D=none->Ext H H'->H' D=some (.lst ys)->Al (λ z y=>R D z y H') (zs.filter c) ys->Q (.ref D) H'):xH k g tt te σ Q J H:=by
 intro D hD;refine⟨λ i m ys H'=>m=zs.length - i/\i<=zs.length/\Ext H H'/\H' D=some (.lst ys)/\Al (λ z y=>R D z y H') ((zs.take i).filter c) ys,⟨zs.length,by simp,Lk _,Ext.new hD,aj,by simpa using Al.nil⟩,?_⟩;rintro i m ys H' ⟨rfl,hi,e,hD',al⟩
 by_cases hlt:i < zs.length
 ·have hz:zs[i]? = some zs[i]:=Kk hlt;obtain⟨go,y⟩:=hgo i zs[i] H' hz e;have tk:zs.take (i+1)=zs.take i++[zs[i]]:=by rw [List.take_succ,hz];rfl
  have ln:ys.length < sizeLine:=by
   have h1:=al.1;have h2:=List.length_filter_le c (zs.take i);simp only [Lm] at h2;omega
  refine .inr ⟨go,λ ys' H2=>Ext H H2/\H2 D=some (.lst ys')/\Al (λ z y=>R D z y H2) ((zs.take (i+1)).filter c) ys',λ ys' H2 p=>⟨zs.length - (i+1),by omega,rfl,hlt,p⟩,λ x H2 z=>?_⟩;obtain⟨e2,p2⟩:=y x H2 z;refine hs D zs[i] x H2 (kC3 D ys _) _ (Lu hlt) hD (e.trans e2) ⟨ys,e2.at hD'⟩ p2 (λ hc y H3 e3 r3=>?_) λ hc H3 e3=>?_
  ·refine⟨e3.at (e2.at hD'),ln,(e.trans (e2.trans e3)).put hD,aj,?_⟩;rw [tk,Ml,show [zs[i]].filter c=[zs[i]] by simp [hc]];exact Al.snoc (al.imp λ z y r=>hR2 _ _ _ _ _ (hR1 _ _ _ _ _ r (e2.trans e3))) (hR2 _ _ _ _ _ r3)
  ·refine⟨e.trans (e2.trans e3),(e2.trans e3).at hD',?_⟩;rw [tk,Ml,show [zs[i]].filter c=[] by simp [hc],Md];exact al.imp λ z y r=>hR1 _ _ _ _ _ r (e2.trans e3)
 ·have e':i=zs.length:=by omega
  subst e';rw [Lx] at al;exact .inl ⟨hst H' e,hd D ys H' hD e hD' al⟩
theorem aP{α:Type}{J:It}(zs:List α)(c:α->Bool)(f:α->V)(P:α->V->Hp->Prop)
  (hgo:∀ i z H',zs[i]? = some z->Ext H H'->J.go i H'/\∀ x H'',J.yld i H' x H''->Ext H' H''/\P z x H'')
  (hst:∀ H',Ext H H'->J.stop zs.length H') (hl:zs.length<=sizeLine)
  (hs:∀ D z x H' N1 N0,z∈zs->H D=none->Ext H H'->P z x H'->(c z=true->∀ H'',Ext H' H''->N1 (f z) H'')->(c z=false->∀ H'',Ext H' H''->N0 H'')->g x (List.replicate k none++σ) H' (kCm k tt te σ N1 N0))
  (hd:∀ D H',H D=none->Ext H H'->H' D=some (.lst ((zs.filter c).map f))->Q (.ref D) H'):xH k g tt te σ Q J H:=
 qr zs c P (λ _ z y _=>y=f z) hgo hst (λ _ _ _ _ _ r _=>r) (λ _ _ _ _ _ r=>r) hl (λ D z x H' N1 N0 hz hD e _ p k1 k0=>hs D z x H' N1 N0 hz hD e p (λ hc H'' e'=>k1 hc _ H'' e' rfl) k0) λ D ys H' hD e hD' al=>hd D H' hD e (by rw [←al.map];exact hD')
theorem cp{lo:Int}{n:Nat}:(∀ i z H',(List.range n)[i]? = some z->Ext H H'->(Itr lo n).go i H'/\∀ x H'',(Itr lo n).yld i H' x H''->Ext H' H''/\x=.int (lo+(z:Nat)))/\∀ H',Ext H H'->(Itr lo n).stop (List.range n).length H':=by
 refine⟨λ i z H' hz _=>?_,λ H' _=>by simp [Itr]⟩;obtain⟨h1,h2⟩:=Km.mp hz;have e:i=z:=by simpa using h2
 subst e;exact⟨(show i < n by simpa using h1),λ x H'' y=>⟨by rw [y.1];exact Ext.refl _,y.2⟩⟩
theorem ju{a:Addr}{xs:List V}(h:H a=some (.lst xs)):(∀ i z H',xs[i]? = some z->Ext H H'->(Itl K a).go i H'/\∀ x H'',(Itl K a).yld i H' x H''->Ext H' H''/\(x=z/\H'' a=some (.lst xs)))/\∀ H',Ext H H'->(Itl K a).stop xs.length H':=
 ⟨λ i z H' hz e=>⟨⟨xs,z,SqL.of (e.at h),hz⟩,λ x H'' y=>⟨by rw [y.1];exact Ext.refl _,K2 ((y.2 xs (SqL.of (e.at h))).symm.trans hz),by rw [y.1];exact e.at h⟩⟩,λ H' e=>⟨xs,SqL.of (e.at h),Kq _⟩⟩
theorem Ec{a:Addr}{xs:List V}(h:H a=some (.tup xs)):(∀ i z H',xs[i]? = some z->Ext H H'->(Itt K a).go i H'/\∀ x H'',(Itt K a).yld i H' x H''->Ext H' H''/\(x=z/\H'' a=some (.tup xs)))/\∀ H',Ext H H'->(Itt K a).stop xs.length H':=
 ⟨λ i z H' hz e=>⟨⟨xs,z,SqT.of (e.at h),hz⟩,λ x H'' y=>⟨by rw [y.1];exact Ext.refl _,K2 ((y.2 xs (SqT.of (e.at h))).symm.trans hz),by rw [y.1];exact e.at h⟩⟩,λ H' e=>⟨xs,SqT.of (e.at h),Kq _⟩⟩
theorem SqK.ext{kk:Bool}{H H':Hp}{a:Addr}{xs:List V}(h:SqK kk H a xs)(e:Ext H H'):SqK kk H' a xs:=by
 cases kk
 ·exact e.at (show H a=some (.lst xs) from h)
 ·exact e.at (show H a=some (.tup xs) from h)
def JR(z:V × V)(x:V)(H:Hp):Prop:=∃ p,x=.ref p/\H p=some (.tup [z.1,z.2])
theorem zV{ka kb:Bool}{a b:Addr}{xs ys:List V}(ha:SqK ka H a xs)(hb:SqK kb H b ys):(∀ i z H',(xs.zip ys)[i]? = some z->Ext H H'->(Itz ka kb a b xs ys).go i H'/\∀ x H'',(Itz ka kb a b xs ys).yld i H' x H''->Ext H' H''/\JR z x H'')/\∀ H',Ext H H'->(Itz ka kb a b xs ys).stop (xs.zip ys).length H':=by
 refine⟨λ i z H' hz e=>?_,λ H' e=>⟨ha.ext e,hb.ext e,?_⟩⟩
 ·obtain⟨h1,h2⟩:=Km.mp hz;rw [Lq] at h1;refine⟨⟨ha.ext e,hb.ext e,by omega,by omega⟩,λ x H'' y=>?_⟩;obtain⟨p,u,v,hp,rfl,hu,hv,rfl⟩:=y;refine⟨Ext.new hp,p,rfl,?_⟩;rw [aj];rw [Kk (by omega)] at hu hv;cases hu;cases hv;rw [←h2,Ng]
 ·rw [Lq];omega
theorem uX{tb:TS}{nx:St->Hp->Prop}{rt:VK}{bk ct:St->Hp->Prop}{ka kb:Bool}{a b:Addr}{xs ys:List V}(Pv:Nat->St->Hp->Prop)(h0:Pv 0 σ H)(hl:∀ i σ H,Pv i σ H->SqK ka H a xs/\SqK kb H b ys)
  (hs:∀ i u v p σ H H',xs[i]? = some u->ys[i]? = some v->Pv i σ H->H p=none->Ext H H'->H' p=some (.tup [u,v])->g (.ref p) σ H' (tJ tb ⟨Pv (i+1),rt,nx,Pv (i+1)⟩)) (hd:∀ σ H,Pv (min xs.length ys.length) σ H->nx σ H):Dv g tb ⟨nx,rt,bk,ct⟩ σ (Itz ka kb a b xs ys) H:=by
 refine⟨λ i m σ H=>m=min xs.length ys.length - i/\i<=min xs.length ys.length/\Pv i σ H,⟨min xs.length ys.length,by simp,Lk _,h0⟩,?_⟩;rintro i m σ H ⟨rfl,hi,p⟩;obtain⟨qa,qb⟩:=hl i σ H p
 by_cases hlt:i < min xs.length ys.length
 ·refine .inr ⟨⟨qa,qb,by omega,by omega⟩,Pv (i+1),λ σ' H' p'=>⟨min xs.length ys.length - (i+1),by omega,rfl,hlt,p'⟩,λ x H' y=>?_⟩;obtain⟨r,u,v,hr,rfl,hu,hv,rfl⟩:=y;exact hs i u v r σ H _ hu hv p hr (Ext.new hr) aj
 ·have e:i=min xs.length ys.length:=by omega
  subst e;exact .inl ⟨⟨qa,qb,by omega⟩,hd σ H p⟩
end
def D9(sc:Scope)(N:List Str)(scope:Scope)(N':List Str)(k:Nat):Bool:=
 scope.names.all (λ y=>!(y.2 == .cell)) && (scope.kind == .function) && scope.names.all (λ y=>!(y.2 == .local) || scope.names.lookup y.1 == some .local) && scope.names.all (λ y=>!(y.2 == .free) || sc.names.lookup y.1 == some .cell) && decide (N'.length=k+N.length) &&
  ((N'.drop k).zip N).all (λ p=>(!(scope.names.lookup p.1 == some .free) || decide (p.1=p.2)) && !(scope.names.lookup p.1 == some .local))
theorem aD{X:Cx}{scope:Scope}{N':List Str}{k:Nat}(sc:Scope)(N:List Str)(h1:X.env.scope=sc)(h2:X.N=N)(h:D9 sc N scope N' k=true):ik X scope N' k:=by
 unfold D9 at h;simp only [Bool.and_eq_true,decide_eq_true_eq] at h;obtain⟨⟨⟨⟨⟨a1,a2⟩,a3⟩,a4⟩,a5⟩,a6⟩:=h;rw [List.all_eq_true] at a1 a3 a4 a6
 have pr:∀ i x,N'[k+i]? = some x->∃ y,N[i]? = some y/\(x,y)∈(N'.drop k).zip N:=λ i x hx=>by
  have h0:=(Km.mp hx).1;have hi:i < N.length:=by omega
  have e1:(N'.drop k)[i]? = some x:=by rw [List.getElem?_drop];exact hx
  have e2:N[i]? = some N[i]:=Kk hi;refine⟨_,e2,LM (i:=i) ?_⟩;rw [Ld];exact⟨e1,e2⟩
 refine⟨λ y hy e=>?_,by simpa using a2,λ y hy e=>?_,λ y hy e=>?_,by rw [h2];exact a5,λ i x hx hf=>?_,λ i x hx hf=>?_⟩
 ·have:=a1 y hy;rw [e] at this;simp at this
 ·have:=a3 y hy;rw [e] at this;simpa using this
 ·have:=a4 y hy;rw [e] at this;rw [h1];simpa using this
 ·obtain⟨y,hy,hm⟩:=pr i x hx;have:=a6 _ hm;simp only [hf] at this;rw [h2,hy];simp at this;rw [this]
 ·obtain⟨y,hy,hm⟩:=pr i x hx;have:=a6 _ hm;simp [hf] at this
def AX(H:Hp)(Q:VK):V->Prop:=λ v=>Q v H
theorem Cq(H:Hp)(Q:VK)(v:V):AX H Q v=Q v H:=rfl
def xG(K:W.Frag)(f:Str)(H:Hp)(Q:VK):HO->Prop:=λ o=>match o with
 | .ins C dx fs=>Cls K C/\dP K C f/\aS (fs.lookup f) (AX H Q)
 | _=>False
theorem Cr(K:W.Frag)(f:Str)(H:Hp)(Q:VK)(C dx:Addr)(fs:List (Str × V)):xG K f H Q (.ins C dx fs)=(Cls K C/\dP K C f/\aS (fs.lookup f) (AX H Q)):=rfl
def Dw(K:W.Frag)(f:Str)(Q:VK):VK:=λ x H=>match x with
 | .ref a=>aS (H a) (xG K f H Q)
 | _=>False
theorem FK(K:W.Frag)(f:Str)(Q:VK)(a:Addr)(H:Hp):Dw K f Q (.ref a) H=aS (H a) (xG K f H Q):=rfl
def Ji(K:W.Frag)(ta:TE)(f:Str):TE:=λ σ H Q=>ta σ H (Dw K f Q)
theorem Fp(K:W.Frag)(ta:TE)(f:Str)(σ:St)(H:Hp)(Q:VK):Ji K ta f σ H Q=ta σ H (Dw K f Q):=rfl
theorem CJ{K:W.Frag}{f:Str}{Q:VK}{x:V}{H:Hp}(h:Dw K f Q x H):∃ a C dx fs v,x=.ref a/\H a=some (.ins C dx fs)/\Cls K C/\dP K C f/\fs.lookup f=some v/\Q v H:=by
 unfold Dw at h;split at h
 ·obtain⟨o,e,h⟩:=av h;unfold xG at h;split at h
  ·obtain⟨c,n,h⟩:=h;obtain⟨v,l,q⟩:=av h;exact⟨_,_,_,_,v,rfl,e,c,n,l,q⟩
  ·exact h.elim
 ·exact h.elim
section
variable {X:Cx}{e o value:Expr}{ta tv:TE}{f:Str}{pos pos':Pos}
theorem Bs(he:PE X e ta)(hb:attributeBase e f X.env (eval e X.env)=eval e X.env):PE X (.Attribute e f pos) (Ji X.K ta f):=by
 intro pins s σ H Q I h;refine Df hb (thn (he pins s σ H _ I h) λ u s1 ⟨x,H1,I1,rx,q1⟩=>?_);obtain⟨a,C,dx,fs,v,ex,ea,c,n,l,q⟩:=CJ q1;subst ex;obtain rfl:u=Value.ref a:=rx;exact sv I1 ea c n l λ u' s2 I2 ru=>⟨v,H1,I2,ru,q⟩
def xE(K:W.Frag)(f:Str)(y:V)(a:Addr)(σ:St)(nx:St->Hp->Prop)(H:Hp):HO->Prop:=λ o=>match o with
 | .ins C dx fs=>Cls K C/\dP K C f/\fs.length < 1000/\nx σ (upd H a (.ins C dx (eD f y fs)))
 | _=>False
theorem Cc(K:W.Frag)(f:Str)(y:V)(a:Addr)(σ:St)(nx:St->Hp->Prop)(H:Hp)(C dx:Addr)(fs:List (Str × V)):xE K f y a σ nx H (.ins C dx fs)=(Cls K C/\dP K C f/\fs.length < 1000/\nx σ (upd H a (.ins C dx (eD f y fs)))):=rfl
def xF(K:W.Frag)(f:Str)(y:V)(σ:St)(nx:St->Hp->Prop):VK:=λ x H=>match x with
 | .ref a=>aS (H a) (xE K f y a σ nx H)
 | _=>False
theorem Ce(K:W.Frag)(f:Str)(y:V)(σ:St)(nx:St->Hp->Prop)(a:Addr)(H:Hp):xF K f y σ nx (.ref a) H=aS (H a) (xE K f y a σ nx H):=rfl
def AR(K:W.Frag)(f:Str)(ta:TE)(σ:St)(nx:St->Hp->Prop):VK:=λ y H=>ta σ H (xF K f y σ nx)
theorem Cf(K:W.Frag)(f:Str)(ta:TE)(σ:St)(nx:St->Hp->Prop)(y:V)(H:Hp):AR K f ta σ nx y H=ta σ H (xF K f y σ nx):=rfl
def DS(K:W.Frag)(ta tv:TE)(f:Str):TS:=λ D σ H=>tv σ H (AR K f ta σ D.nx)
theorem B0(K:W.Frag)(ta tv:TE)(f:Str)(nx:St->Hp->Prop)(rt:VK)(bk ct:St->Hp->Prop)(σ:St)(H:Hp):DS K ta tv f ⟨nx,rt,bk,ct⟩ σ H=tv σ H (AR K f ta σ nx):=rfl
theorem kW(ha:PE X o ta)(hv:PE X value tv)(hs:swapsWith value (some (.Attribute o f pos')) pos.line X.env=pure false):PS X (.Assign [.Attribute o f pos'] value pos) (DS X.K ta tv f):=by
 intro pins s σ H D I h;refine plainObj_wpAny_Assign_Attribute (thn (hv pins s σ H _ I h) λ u s1 ⟨y,H1,I1,ry,q⟩=>thn (ha pins s1 σ H1 _ I1 q) λ ov s2 ⟨x,H2,I2,rx,q1⟩=>?_) hs;unfold xF at q1;split at q1
 ·rename_i a;obtain rfl:ov=Value.ref a:=rx;obtain⟨ob,ea,q1⟩:=av q1;unfold xE at q1;split at q1
  ·obtain⟨c,n,l,q2⟩:=q1;exact qW I2 ea c n l ry λ s3 I3=>⟨σ,_,I3,q2⟩
  ·exact q1.elim
 ·exact q1.elim
end
def uw(sp:Sp)(dvs:List V)(E:XK)(a:Addr)(Q:VK):List V->Hp->Prop:=λ vs H=>sp (.ref a::(vs++dvs)) H Q E
theorem rL(sp:Sp)(dvs:List V)(E:XK)(a:Addr)(Q:VK)(H:Hp):uw sp dvs E a Q [] H=sp (.ref a::dvs) H Q E:=rfl
def pQ(C:Addr)(m:Str)(sp:Sp)(dvs:List V)(E:XK)(t:TA)(σ:St)(Q:VK)(a:Addr)(H:Hp):HO->Prop:=λ o=>match o with
 | .ins C' dx fs=>C'=C/\fs.lookup m=none/\t σ H (uw sp dvs E a Q)
 | _=>False
theorem yv(C:Addr)(m:Str)(sp:Sp)(dvs:List V)(E:XK)(t:TA)(σ:St)(Q:VK)(a:Addr)(H:Hp)(dx:Addr)(fs:List (Str × V)):pQ C m sp dvs E t σ Q a H (.ins C dx fs)=(fs.lookup m=none/\t σ H (uw sp dvs E a Q)):=propext ⟨λ h=>h.2,λ h=>⟨rfl,h⟩⟩
def tG(C:Addr)(m:Str)(sp:Sp)(dvs:List V)(E:XK)(t:TA)(σ:St)(Q:VK):VK:=λ x H=>match x with
 | .ref a=>aS (H a) (pQ C m sp dvs E t σ Q a H)
 | _=>False
theorem Cn(C:Addr)(m:Str)(sp:Sp)(dvs:List V)(E:XK)(t:TA)(σ:St)(Q:VK)(a:Addr)(H:Hp):tG C m sp dvs E t σ Q (.ref a) H=aS (H a) (pQ C m sp dvs E t σ Q a H):=rfl
def DT(C:Addr)(m:Str)(sp:Sp)(dvs:List V)(E:XK)(ta:TE)(t:TA):TE:=λ σ H Q=>ta σ H (tG C m sp dvs E t σ Q)
theorem B2(C:Addr)(m:Str)(sp:Sp)(dvs:List V)(E:XK)(ta:TE)(t:TA)(σ:St)(H:Hp)(Q:VK):DT C m sp dvs E ta t σ H Q=ta σ H (tG C m sp dvs E t σ Q):=rfl
theorem yX{C:Addr}{m:Str}{sp:Sp}{dvs:List V}{E:XK}{t:TA}{σ:St}{Q:VK}{x:V}{H:Hp}(h:tG C m sp dvs E t σ Q x H):∃ a dx fs,x=.ref a/\H a=some (.ins C dx fs)/\fs.lookup m=none/\t σ H λ vs H2=>sp (x::(vs++dvs)) H2 Q E:=by
 unfold tG at h;split at h
 ·obtain⟨o,e,h⟩:=av h;unfold pQ at h;split at h
  ·obtain⟨rfl,l,h⟩:=h;exact⟨_,_,_,rfl,e,l,h⟩
  ·exact h.elim
 ·exact h.elim
section
variable {X:Cx}{CX:CXT}{k:Nat}{f C:Addr}{fd:FuncData}{ps:List Str}{sp:Sp}{dvs:List V}{ds:List Value}{E:XK}{x m:Str}{p pos apos:Pos}{e o:Expr}{es:List Expr}{ta:TE}{t:TA}
theorem mq{pl:Sem Bool}(he:PE X o ta)(c:Cls X.K C)(hm:Ar X.K C m f)(F:bq X.prog X.w X.K X.mg X.base CX k f fd ps sp)(hr:gM k X.A)(hb:aC X.K fd ps ds)(hd:aX dvs ds)(hx:jw CX X E)
  (ht:eval (.Call (.Attribute o m apos) [] [] pos) X.env=(do
   let ov ←eval o X.env
   standAt apos.atName
   let (f,first) ←holding [ov] (getMethod ov m pl)
   callWith pos f first (backTo pos (starEach [] X.env)) (backToKw pos (keywordEach [] X.env))):=by rfl) :
  PE X (.Call (.Attribute o m apos) [] [] pos) (DT C m sp dvs E ta Dq):=by
 intro pins s σ H Q I h;refine W.methodCall_KW (pl:=pl) (thn (he pins s σ H _ I h) λ u s1 ⟨x,H1,I1,rx,q0⟩=>?_) ht;obtain⟨a,dx,fs,ex,ea,l,q⟩:=yX q0;subst ex;obtain rfl:u=Value.ref a:=rx;refine su I1 ea c hm l ?_;exact W.callWith_K0 (first:=[.ref a]) I1.kIn hm.kp (zZ (us:=[.ref a]) (vs:=[.ref a]) F hr hb hd hx I1 (.cons rfl .nil) q)
end
def AV(x:Addr)(Q:VK):VK:=λ v H=>v=.non/\Q (.ref x) H
theorem Co(x:Addr)(Q:VK)(H:Hp):AV x Q .non H=Q (.ref x) H:=propext ⟨λ h=>h.2,λ h=>⟨rfl,h⟩⟩
def tH(C:Addr)(sp:Sp)(dvs:List V)(E:XK)(Q:VK):List V->Hp->Prop:=λ vs H=>∀ (x dx:Addr) (H':Hp),H x=none->H dx=none->dx ≠ x->Ext H H'->H' x=some (.ins C dx [])->H' dx=some (.own x)->sp (.ref x::(vs++dvs)) H' (AV x Q) E
theorem vM(C:Addr)(sp:Sp)(dvs:List V)(E:XK)(Q:VK)(a b c:V)(H:Hp):tH C sp dvs E Q [a,b,c] H=∀ (x dx:Addr) (H':Hp),H x=none->H dx=none->dx ≠ x->Ext H H'->H' x=some (.ins C dx [])->H' dx=some (.own x)->sp (.ref x::a::b::c::dvs) H' (AV x Q) E:=rfl
def DU(C:Addr)(sp:Sp)(dvs:List V)(E:XK)(t:TA):TE:=λ σ H Q=>t σ H (tH C sp dvs E Q)
theorem B3(C:Addr)(sp:Sp)(dvs:List V)(E:XK)(t:TA)(σ:St)(H:Hp)(Q:VK):DU C sp dvs E t σ H Q=t σ H (tH C sp dvs E Q):=rfl
section
variable {X:Cx}{CX:CXT}{k:Nat}{f C:Addr}{fd:FuncData}{ps:List Str}{sp:Sp}{dvs:List V}{ds:List Value}{E:XK}{x m:Str}{p pos apos:Pos}{e o:Expr}{es:List Expr}{ta:TE}{t:TA}
theorem tH.to{Q:VK}{vs:List V}{H:Hp}(h:tH C sp dvs E Q vs H):∀ x dx,H x=none->H dx=none->dx ≠ x->sp (.ref x::(vs++dvs)) (upd (upd H dx (.own x)) x (.ins C dx [])) (λ v H2=>v=.non/\Q (.ref x) H2) E:=λ x dx hx hd ne=>
 h x dx _ hx hd ne ((Ext.new hd).put hx) aj (by rw [ak ne,aj])
theorem qd(M:Mk X.K C f)(F:bq X.prog X.w X.K X.mg X.base CX k f fd ps sp)(hr:gM (k+1) X.A)(hg:Gl X x)(hm:X.mg x=some (.ref C))(hb:aC X.K fd ps ds)(hd:aX dvs ds)(hx:jw CX X E)
  (ha:PA X (e::es) t) (hdb:(x == ("__debug__":Str))=false:=by decide) (he:starEach (e::es) X.env=(false,eval e X.env)::starEach es X.env:=by rfl) (hpl:(backTo pos (starEach es X.env)).any (·.1)=false:=by rfl) :
  PE X (.Call (.Name x p) (e::es) [] pos) (DU C sp dvs E t):=by
 intro pins s σ H Q I h;refine L7 (oF I hg hm ?_ hdb);refine W.callWith_K (h₀:=X.base) I.ok.mod.kin M.kp (thn (ha pos pins s σ H _ I h) λ us s1 ⟨vs,H1,I1,r,q⟩=>⟨I1.kIn,?_⟩) he hpl;exact xZ M F hr hb hd hx I1 r q.to
end
def uP:Expr->Bool
 | .Starred ..=>false
 | _=>true
theorem Bd{e:Expr}{es:List Expr}{env:Env}(h:uP e=true):starEach (e::es) env=(false,eval e env)::starEach es env:=by
 cases e<;>first|rfl|cases h
theorem Dt{X:Cx}{e:Expr}{es:List Expr}{te:TE}{t:TA}(ha:PE X e te)(hr:PA X es t)(hn:uP e=true:=by rfl):PA X (e::es) (tu te t):=BA ha hr (Bd hn)
def xt(H:Hp)(z:List Int)(y:V):Prop:=∃ q,y=.ref q/\H q=some (.tup (z.map V.int))
theorem xt.ext{H H':Hp}{z:List Int}{y:V}(h:xt H z y)(e:Ext H H'):xt H' z y:=by
 obtain⟨q,rfl,hq⟩:=h;exact⟨q,rfl,e.at hq⟩
def dj(H:Hp)(p:Addr)(zs:List (List Int)):Prop:=∃ ys,H p=some (.lst ys)/\Al (xt H) zs ys
theorem dj.ext{H H':Hp}{p:Addr}{zs:List (List Int)}(h:dj H p zs)(e:Ext H H'):dj H' p zs:=by
 obtain⟨ys,hp,al⟩:=h;exact⟨ys,e.at hp,al.imp λ _ _ r=>r.ext e⟩
theorem pZ{H:Hp}{f:V->Option PyData}:∀ {zs:List (List Int)}{ys:List V},Al (xt H) zs ys->aY (ys.map (eT H (eT H f)))=some (zs.map λ z=>PyData.tuple (z.map PyData.int))
 | [],ys,h=>by rw [List.eq_nil_of_length_eq_zero h.1];rfl
 | z::zs,[],h=>by have:=h.1;simp at this
 | z::zs,y::ys,h=>by
  obtain⟨q,rfl,hq⟩:=h.2 0 z y rfl rfl;have ih:=pZ (H:=H) (f:=f) (zs:=zs) (ys:=ys) ⟨by have:=h.1;simpa using this,λ i z y a b=>h.2 (i+1) z y (by simpa using a) (by simpa using b)⟩
  have e1:eT H (eT H f) (.ref q)=some (.tuple (z.map PyData.int)):=by
   rw [gu,hq]
   show zQ (eT H f) (.tup (z.map V.int))=_
   rw [gn,eB];rfl
  rw [KZ,e1,dc,ih];rfl
theorem au{n:Nat}(h:n<=5000):n<=sizeLine:=Le h (by decide)
theorem ib{n:Nat}(h:n < 5000):n < sizeLine:=KC h (by decide)
def Ht(xs:List V)(H:Hp)(Q:VK):List V->Prop:=λ ys=>xs.length+ys.length<=sizeLine/\∀ (p:Addr) (H':Hp),Ext H H'->H' p=some (.tup (xs++ys))->Q (.ref p) H'
theorem Eb(xs:List V)(H:Hp)(Q:VK)(ys:List V):Ht xs H Q ys=(xs.length+ys.length<=sizeLine/\∀ (p:Addr) (H':Hp),Ext H H'->H' p=some (.tup (xs++ys))->Q (.ref p) H'):=rfl
def Hu(b:Addr)(H:Hp)(Q:VK):List V->Prop:=λ xs=>aS (g9 H b) (Ht xs H Q)
theorem FU(b:Addr)(H:Hp)(Q:VK)(xs:List V):Hu b H Q xs=aS (g9 H b) (Ht xs H Q):=rfl
def AI:R2:=λ x y H Q=>match x,y with
 | .ref l,.ref b=>aS (g9 H l) (Hu b H Q)
 | _,_=>False
theorem B6(l b:Addr)(H:Hp)(Q:VK):AI (.ref l) (.ref b) H Q=aS (g9 H l) (Hu b H Q):=rfl
theorem yk{X:Cx}:OpR X (binaryOp .Add) AI:=by
 intro pins s σ H x y v u Q I rx ry h;unfold AI at h;split at h
 ·rename_i l b;obtain⟨xs,e1,h⟩:=av h;obtain⟨ys,e2,hz,k⟩:=av h;have g1:=pI e1;have g2:=pI e2
  by_cases hx:xs=[]
  ·subst hx;cases rx;cases ry;obtain⟨its,r1,p1,_⟩:=I.tuple (SqT.of g1);obtain⟨its2,r2,p2,_⟩:=I.tuple (SqT.of g2);obtain⟨⟨cls,dd,data,sl⟩,ho,hc,n,hd⟩:=id p1;obtain⟨⟨cls2,dd2,data2,sl2⟩,ho2,hc2,n2,hd2⟩:=id p2;simp only at hc hd hc2 hd2;subst hc hd hc2 hd2;cases r1
   exact concat_meets ⟨_,ho,rfl⟩ ⟨_,ho2,rfl⟩ noFill_tuple_add seq_tuple_add MD Mu (Ms _ _)
    (tuple_addW0 l b #[] its2.toArray n n2 dd dd2 sl sl2 (by simp)) ⟨ho,ho2,show EP X pins σ Q (.ref b) s from ⟨.ref b,H,I,rfl,k b H (Ext.refl _) (by rw [List.nil_append];exact g2)⟩⟩
  ·refine BE pins s σ H (.ref l) (.ref b) v u Q I rx ry ⟨l,b,xs,ys,rfl,rfl,SqT.of g1,SqT.of g2,hx,hz,λ hy=>?_,λ hy p hp=>k p _ (Ext.new hp) aj⟩;subst hy;exact k l H (Ext.refl _) (by rw [Md];exact g1)
 ·exact h.elim
theorem fV{K:W.Frag}{H:Hp}{α:Type}{R:α->V->Hp->Prop}(hR:∀ z y H H',R z y H->Ext H H'->R z y H'){l:Addr}{ys:List V}{zs:List α}(h:H l=some (.lst ys))(al:Al (λ z y=>R z y H) zs ys) :
  (∀ i z H',zs[i]? = some z->Ext H H'->(Itl K l).go i H'/\∀ x H'',(Itl K l).yld i H' x H''->Ext H' H''/\R z x H'')/\∀ H',Ext H H'->(Itl K l).stop zs.length H':=by
 refine⟨λ i z H' hz e=>?_,λ H' e=>⟨ys,SqL.of (e.at h),by rw [al.1];exact Kq _⟩⟩;have hi:i < ys.length:=by rw [al.1];exact(Km.mp hz).1
 have hy:ys[i]? = some ys[i]:=Kk hi;refine⟨⟨ys,ys[i],SqL.of (e.at h),hy⟩,λ x H'' y=>?_⟩;have hx:x=ys[i]:=K2 ((y.2 ys (SqL.of (e.at h))).symm.trans hy);refine⟨by rw [y.1];exact Ext.refl _,?_⟩;rw [hx,y.1];exact hR _ _ _ _ (al.2 i z _ hz hy) e
def axP(a:Int × Int)(x:V)(H:Hp):Prop:=∃ q,x=.ref q/\H q=some (.tup [.int a.1,.int a.2])
theorem axP.ext{a:Int × Int}{x:V}{H H':Hp}(h:axP a x H)(e:Ext H H'):axP a x H':=by
 obtain⟨q,rfl,hq⟩:=h;exact⟨q,rfl,e.at hq⟩
theorem me{H:Hp}{axs:List (Int × Int)}{ys:List V}(al:Al (xt H) (axs.map λ a=>[a.1,a.2]) ys):Al (λ a y=>axP a y H) axs ys:=by
 refine⟨by rw [al.1,Kr],λ i a y ha hy=>?_⟩;obtain⟨q,hq,h⟩:=al.2 i [a.1,a.2] y (by rw [KH,ha];rfl) hy;exact⟨q,hq,h⟩
section
variable {prog:Program}{w:World}{A:Around}{E:Value->Shared->Prop}{s:Shared}
variable {z TI TO i j:Addr}{f g:List Addr}{ti tj:Nat->Heap->Prop}{vi vj:Nat->Option Value}{k m:Nat}{x y:Value}{t:Addr}{fl:Bool}{ot:Obj}
variable {ka kb:Bool}{a b p q:Addr}{as bs:Array Value}{n:Nat}
end
section
variable {X:Cx}{pins:List (Addr × Obj)}{σ:St}{s:Shared}
end
section
variable {X:Cx}
end
section
variable {X:Cx}
end
def AY(l:Addr)(xs:List V)(H:Hp)(Q:VK):List V->Prop:=λ zs=>xs.length+zs.length<=sizeLine/\Q .non (upd H l (.lst (xs++zs)))
theorem Cs(l:Addr)(xs:List V)(H:Hp)(Q:VK)(zs:List V):AY l xs H Q zs=(xs.length+zs.length<=sizeLine/\Q .non (upd H l (.lst (xs++zs)))):=rfl
def DZ(l b:Addr)(H:Hp)(Q:VK):List V->Prop:=λ xs=>aS (aO H b) (AY l xs H Q)
theorem Ct(l b:Addr)(H:Hp)(Q:VK)(xs:List V):DZ l b H Q xs=aS (aO H b) (AY l xs H Q):=rfl
theorem vK(l b:Addr)(H:Hp)(Q:VK):uI (.ref l) [.ref b] H Q=aS (aO H l) (DZ l b H Q):=by
 refine propext ⟨λ h=>?_,λ h=>?_⟩
 ·obtain⟨l',b',xs,zs,e1,e2,h1,h2,h3,q⟩:=h;cases e1;cases e2;unfold aO;rw [h1]
  show aS (aO H b) _
  unfold aO;rw [h2];exact⟨h3,q⟩
 ·obtain⟨xs,e,h⟩:=av h;obtain⟨zs,e2,h3,q⟩:=av h;exact⟨l,b,xs,zs,rfl,rfl,di e,di e2,h3,q⟩
section
variable {X:Cx}{a b c d:Expr}{ta tb tc td:TE}{pos:Pos}
end
section
variable {k:Nat}{g:TG}{tt:TT}{te:TE}{σ:St}{Q:VK}{H:Hp}{K:PySem.W.Frag}
theorem bS{α:Type}{J:It}(zs:List α)(c:α->Bool)(P:α->V->Hp->Prop)(R:Addr->α->V->Hp->Prop)
  (hgo:∀ i z H',zs[i]? = some z->Ext H H'->J.go i H'/\∀ x H'',J.yld i H' x H''->Ext H' H''/\P z x H'')
  (hst:∀ H',Ext H H'->J.stop zs.length H')
  (hR1:∀ D z y H1 H2,R D z y H1->Ext H1 H2->R D z y H2) (hR2:∀ D z y H1 xs o,R D z y H1->H1 D=some (.lst xs)->R D z y (upd H1 D o))
  (hl:zs.length<=sizeLine)
  (hs:∀ D z x H' N1 N0,z∈zs->H D=none->Ext H H'->(∃ ys,H' D=some (.lst ys))->P z x H'->(c z=true->∀ y H'',Ext H' H''->R D z y H''->N1 y H'')->(c z=false->∀ H'',Ext H' H''->N0 H'')->g x (List.replicate k none++σ) H' (kCm k tt te σ N1 N0))
  (hd:∀ D ys H',H D=none->Ext H H'->H' D=some (.lst ys)->Al (λ z y=>R D z y H') (zs.filter c) ys->Q (.ref D) H'):xH k g tt te σ Q J H:=by
 intro D hD;refine⟨λ i m ys H'=>m=zs.length - i/\i<=zs.length/\Ext H H'/\H' D=some (.lst ys)/\Al (λ z y=>R D z y H') ((zs.take i).filter c) ys,⟨zs.length,by simp,Lk _,Ext.new hD,aj,by simpa using Al.nil⟩,?_⟩;rintro i m ys H' ⟨rfl,hi,e,hD',al⟩
 by_cases hlt:i < zs.length
 ·have hz:zs[i]? = some zs[i]:=Kk hlt;obtain⟨go,y⟩:=hgo i zs[i] H' hz e;have tk:zs.take (i+1)=zs.take i++[zs[i]]:=by rw [List.take_succ,hz];rfl
  have ln:ys.length < sizeLine:=by
   have h1:=al.1;have h2:=List.length_filter_le c (zs.take i);simp only [Lm] at h2;omega
  refine .inr ⟨go,λ ys' H2=>Ext H H2/\H2 D=some (.lst ys')/\Al (λ z y=>R D z y H2) ((zs.take (i+1)).filter c) ys',λ ys' H2 p=>⟨zs.length - (i+1),by omega,rfl,hlt,p⟩,λ x H2 z=>?_⟩;obtain⟨e2,p2⟩:=y x H2 z;refine hs D zs[i] x H2 (kC3 D ys _) _ (Lu hlt) hD (e.trans e2) ⟨ys,e2.at hD'⟩ p2 (λ hc y H3 e3 r3=>?_) λ hc H3 e3=>?_
  ·refine⟨e3.at (e2.at hD'),ln,(e.trans (e2.trans e3)).put hD,aj,?_⟩;rw [tk,Ml,show [zs[i]].filter c=[zs[i]] by simp [hc]];exact Al.snoc (al.imp λ z y r=>hR2 _ _ _ _ _ _ (hR1 _ _ _ _ _ r (e2.trans e3)) (e3.at (e2.at hD'))) (hR2 _ _ _ _ _ _ r3 (e3.at (e2.at hD')))
  ·refine⟨e.trans (e2.trans e3),(e2.trans e3).at hD',?_⟩;rw [tk,Ml,show [zs[i]].filter c=[] by simp [hc],Md];exact al.imp λ z y r=>hR1 _ _ _ _ _ r (e2.trans e3)
 ·have e':i=zs.length:=by omega
  subst e';rw [Lx] at al;exact .inl ⟨hst H' e,hd D ys H' hD e hD' al⟩
end
def Ite(l:Addr)(xs:List V):It:=
 ⟨λ i H=>H l=some (.lst xs)/\i < xs.length,λ i H x H'=>∃ p u,H p=none/\x=.ref p/\xs[i]? = some u/\H'=upd H p (.tup [.int (i:Int),u]),λ i H=>H l=some (.lst xs)/\i=xs.length⟩
def Tne(l e it:Addr)(i:Nat)(h:Heap):Prop:=(∃ old,IsEnum h e it (i:Int) old)/\h.IsListIter it l i
theorem vh{P:Program}{w:World}{K:PySem.W.Frag}{elts:List Expr}{x1}{tp:Pos}(l e it:Addr)(xs:List V)(ne:e ≠ it):zS P w K (.Tuple elts x1 tp) (Ite l xs) [e,it] e (Tne l e it) where
 mem:=Kp
 obj:=λ i h st c hc=>by
  obtain⟨⟨old,e1⟩,e2⟩:=st;simp only [KS,K8,LA] at hc
  rcases hc with rfl|rfl
  ·exact⟨_,e1,λ v z=>by cases z⟩
  ·obtain⟨o,e,_,d⟩:=e2;exact⟨o,e,λ v z=>by rw [d] at z;cases z⟩
 keep:=λ i h h' st k=>by
  obtain⟨⟨old,e1⟩,e2⟩:=st;exact⟨⟨old,k e (by simp) _ e1⟩,e2.at λ o q=>k it (by simp) o q⟩
 item:=by
  intro X hP hw hK hc i pins s σ H E I hf st hg;subst hP hw hK;obtain⟨ha,l1⟩:=hg;obtain⟨as,ra,pl,_⟩:=I.list (SqL.of ha);have hx:xs[i]? = some xs[i]:=Kk l1;obtain⟨u,hu,ru⟩:=ra.get hx;have free:∀ c∈[e,it],H c=none:=λ c h=>(hf c h).1;have nle:l ≠ e:=λ z=>by have:=free e (by simp);rw [←z,ha] at this;cases this
  have nlt:l ≠ it:=λ z=>by have:=free it (by simp);rw [←z,ha] at this;cases this
  have W:=WalksT.enumerate (prog:=X.prog) (w:=X.w) (I.ok.hd hc) e it l ne nle nlt as.toArray;have la:=ra.length;obtain⟨e1,e2⟩:=st;obtain⟨old,e1'⟩:=e1;refine W.item i s _ E (by simp;omega) ⟨⟨old,e1'⟩,e2,pl.isList⟩ λ T vals h1 tk hp hle hT hmid kp=>⟨_,rfl,?_⟩;refine W.go elts x1 tp i T ⟨h1,s.gens,s.drawn,tk,s.os⟩ _ E hmid λ h2 st2 kp2=>?_;have nT:=W.apart i T h1 hmid;obtain⟨tk',x,hx',rfl⟩:=hp
  have hxu:x=u:=by
   have:as[i]? = some x:=by simpa using hx'
   rw [hu] at this;exact(K2 this).symm
  subst hxu;have hT2:h2.IsTuple T #[.int (i:Int) tk',x]:=hT.at λ o q=>kp2 T o nT q;have I2:Inv X pins σ (upd H T (.tup [.int (i:Int),xs[i]])) { s with heap:=h2,toks:=tk }:=I.turnNew (t':=tk) (ch:=[e,it]) (λ c hc=>hf c hc) (λ c o hc q=>kp2 c o hc (kp c o hc q)) hle ⟨(show 2<=sizeLine by decide),[.int (i:Int) tk',x],.cons ⟨tk',rfl⟩ (.cons ru .nil),hT2⟩;have fr:H T=none:=I.hok.fresh hle;refine⟨.ref T,_,I2,rfl,⟨_,_,fr,rfl,hx,rfl⟩,⟨st2.1,st2.2.1⟩,λ c hc=>?_⟩
  have hlt:c < s.heap.objs.size:=by
   simp only [KS,K8,LA] at hc
   rcases hc with rfl|rfl
   ·exact Kt e1'
   ·obtain⟨o,q,_⟩:=e2;exact Kt q
  rw [ak (KL (KC hlt hle))];exact free c hc
 done:=by
  intro X hP hw hK hc i pins s σ H E I hf st hg;subst hP hw hK;obtain⟨ha,rfl⟩:=hg;obtain⟨as,ra,pl,_⟩:=I.list (SqL.of ha);have free:∀ c∈[e,it],H c=none:=λ c h=>(hf c h).1;have nle:l ≠ e:=λ z=>by have:=free e (by simp);rw [←z,ha] at this;cases this
  have nlt:l ≠ it:=λ z=>by have:=free it (by simp);rw [←z,ha] at this;cases this
  have W:=WalksT.enumerate (prog:=X.prog) (w:=X.w) (I.ok.hd hc) e it l ne nle nlt as.toArray;have la:=ra.length;have hsz:as.toArray.size=xs.length:=by simp [la]
  obtain⟨e1,e2⟩:=st;refine W.done s _ E (by rw [hsz];exact⟨e1,e2,pl.isList⟩) λ h' tk kp=>⟨rfl,I.turnL (t':=tk) (ch:=[e,it]) (λ c hc=>hf c hc) kp⟩
 self:=λ A i s Q E st h=>by
  obtain⟨⟨old,e1⟩,e2⟩:=st;exact wpAny_pyIter_enum e1 h
def Hn(l:Addr)(H:Hp)(R:It->Hp->Prop):List V->Prop:=λ xs=>R (Ite l xs) H
theorem FN(l:Addr)(H:Hp)(R:It->Hp->Prop)(xs:List V):Hn l H R xs=R (Ite l xs) H:=rfl
def GN(R:It->Hp->Prop):List V->Hp->Prop:=λ vs H=>match vs with
 | [.ref l]=>aS (aO H l) (Hn l H R)
 | _=>False
theorem FO(R:It->Hp->Prop)(l:Addr)(H:Hp):GN R [.ref l] H=aS (aO H l) (Hn l H R):=rfl
def D6(ta:TA):TI:=λ σ H R=>ta σ H (GN R)
theorem CD(ta:TA)(σ:St)(H:Hp)(R:It->Hp->Prop):D6 ta σ H R=ta σ H (GN R):=rfl
section
variable {X:Cx}
theorem Bo{a:Expr}{elts:List Expr}{x1}{tp:Pos}{ta:TA}{p pos:Pos}(hg:Gl X "enumerate")(hm:X.mg "enumerate"=none)(ha:PA X [a] ta)(he:starEach [a] X.env=[(false,eval a X.env)]:=by rfl) :
  PI X (.Tuple elts x1 tp) (.Call (.Name "enumerate" p) [a] [] pos) (D6 ta):=by
 intro pins s σ H R I h;refine Call_ (ic I hg hm (show bootBuiltins "enumerate"=some (.type "enumerate") by decide +kernel) (PyProof.Rows.callWith_type1 (thn (ha pos pins s σ H _ I h) λ us s1 ⟨vs,H1,I1,r1,q1⟩=>?_) (by rw [he];rfl) (by rfl)));unfold GN at q1;split at q1
 ·rename_i l;obtain⟨xs,e,q⟩:=av q1;replace e:=di e
  cases r1 with
  | cons r rr=>
   cases rr;cases r;obtain⟨as,ra,pl,_⟩:=I1.list (SqL.of e);refine call_enumerate_list pl.isList λ h' e1 e2 e3 e4=>?_;have I2:Inv X pins σ H1 { s1 with heap:=h' }:=I1.kept (t':=s1.toks) e4;refine wpAny_pyIter_enum (s:={ s1 with heap:=h' }) e1 ⟨s1.heap.objs.size+1,[s1.heap.objs.size+1,s1.heap.objs.size],_,_,H1,rfl,I2,vh l (s1.heap.objs.size+1) s1.heap.objs.size xs (by simp),⟨⟨_,e1⟩,e2⟩,λ c hc=>?_,q⟩
   have hle:s1.heap.objs.size<=c:=by
    simp only [KS,K8,LA] at hc
    rcases hc with rfl|rfl
    ·exact Ma ..
    ·exact Kq _
   exact I1.fpOk hle (I1.hok.fresh hle)
 ·exact q1.elim
end
section
variable {g:TG}{σ:St}{Q:VK}{H:Hp}{K:PySem.W.Frag}
theorem zl{tb:TS}{nx:St->Hp->Prop}{rt:VK}{bk ct:St->Hp->Prop}{l:Addr}{xs:List V}(Pv:Nat->St->Hp->Prop)(h0:Pv 0 σ H)(hl:∀ i σ H,Pv i σ H->H l=some (.lst xs))
  (hs:∀ i u p σ H H',xs[i]? = some u->Pv i σ H->H p=none->Ext H H'->H' p=some (.tup [.int (i:Int),u])->g (.ref p) σ H' (tJ tb ⟨Pv (i+1),rt,nx,Pv (i+1)⟩)) (hd:∀ σ H,Pv xs.length σ H->nx σ H):Dv g tb ⟨nx,rt,bk,ct⟩ σ (Ite l xs) H:=by
 refine⟨λ i m σ H=>m=xs.length - i/\i<=xs.length/\Pv i σ H,⟨xs.length,by simp,Lk _,h0⟩,?_⟩;rintro i m σ H ⟨rfl,hi,p⟩;have qa:=hl i σ H p
 by_cases hlt:i < xs.length
 ·refine .inr ⟨⟨qa,hlt⟩,Pv (i+1),λ σ' H' p'=>⟨xs.length - (i+1),by omega,rfl,hlt,p'⟩,λ x H' y=>?_⟩;obtain⟨r,u,hr,rfl,hu,rfl⟩:=y;exact hs i u r σ H _ hu p hr (Ext.new hr) aj
 ·have e:i=xs.length:=by omega
  subst e;exact .inl ⟨⟨qa,rfl⟩,hd σ H p⟩
end
section
variable {X:Cx}{CX:CXT}{k:Nat}{f C:Addr}{fd:FuncData}{ps:List Str}{sp:Sp}{dvs:List V}{ds:List Value}{E:St->XK}{x m:Str}{p pos apos:Pos}{e o:Expr}{es:List Expr}{ta:TE}{t:TA}
end
section
variable {X:Cx}{e st:Expr}{te tst:TE}{pos p2:Pos}
end
section
variable {X:Cx}
end
theorem cJ{n:Nat}(h:n+64 < cLine):n+1 < cLine:=by omega
def Hr(Q:VK)(x:V):VK:=λ y H=>∃ a v,x=.ref a/\sY H a y (some v)/\Q v H
def Jx(ty:TE)(σ:St)(Q:VK):VK:=λ x H=>ty σ H (Hr Q x)
theorem FR(ty:TE)(σ:St)(Q:VK)(x:V)(H:Hp):Jx ty σ Q x H=ty σ H (Hr Q x):=rfl
theorem BP(td ty:TE)(σ:St)(H:Hp)(Q:VK):DF td ty σ H Q=td σ H (Jx ty σ Q):=rfl
theorem tO{H:Hp}{a:Addr}{kvs:List (Key × V)}{k:Key}{v:V}{Q:VK}(e:H a=some (.dK kvs))(h:dw kvs k=some v)(q:Q v H):Hr Q (.ref a) (kV k) H:=⟨a,v,rfl,h ▸ sY.k e,q⟩
section
variable {X:Cx}
end
def Ho(nx:St->Hp->Prop)(σ:St)(v x:V):VK:=λ y H=>∃ a H4,x=.ref a/\Dn H a y v H4/\nx σ H4
def Hq(ty:TE)(nx:St->Hp->Prop)(σ:St)(v:V):VK:=λ x H=>ty σ H (Ho nx σ v x)
theorem FP(ty:TE)(nx:St->Hp->Prop)(σ:St)(v x:V)(H:Hp):Hq ty nx σ v x H=ty σ H (Ho nx σ v x):=rfl
def Jw(td ty:TE)(nx:St->Hp->Prop)(σ:St):VK:=λ v H=>td σ H (Hq ty nx σ v)
theorem FQ(td ty:TE)(nx:St->Hp->Prop)(σ:St)(v:V)(H:Hp):Jw td ty nx σ v H=td σ H (Hq ty nx σ v):=rfl
theorem BU(td ty tv:TE)(nx:St->Hp->Prop)(rt:VK)(bk ct:St->Hp->Prop)(σ:St)(H:Hp):DI td ty tv ⟨nx,rt,bk,ct⟩ σ H=tv σ H (Jw td ty nx σ):=rfl
theorem gz{H:Hp}{a:Addr}{kvs:List (Key × V)}{k:Key}{v:V}{nx:St->Hp->Prop}{σ:St}(e:H a=some (.dK kvs))(hl:kvs.length < sizeLine)(q:nx σ (upd H a (.dK (dg kvs k v)))):Ho nx σ v (.ref a) (kV k) H:=⟨a,_,rfl,Dn.k e hl,q⟩
def DN:List V->Hp->VK->Prop:=λ vs H Q=>∃ p kvs ns,vs=[.ref p]/\H p=some (.dK kvs)/\kvs.map (·.1)=ns.map (Sum.inl:Int->Key)/\ns.length < 64/\∀ ms:List Int,ms.Perm ns->ms.Pairwise (·<=·)->g8 (.lst (ms.map V.int)) H Q
theorem A4{p:Addr}{kvs:List (Key × V)}{ns:List Int}{H:Hp}{Q:VK}(e:H p=some (.dK kvs))(hk:kvs.map (·.1)=ns.map (Sum.inl:Int->Key))(hl:ns.length < 64)(q:∀ ms:List Int,ms.Perm ns->ms.Pairwise (·<=·)->g8 (.lst (ms.map V.int)) H Q):DN [.ref p] H Q:=⟨p,kvs,ns,rfl,e,hk,hl,q⟩
theorem ft:∀ {us:List Value}{ns:List Int},us.length=ns.length->(∀ (i:Nat) (u:Value),us[i]? = some u->∃ n t,ns[i]? = some n/\u=.int n t)->IntsAre us ns
 | [],[],_,_=>.nil
 | [],_::_,h,_=>by cases h
 | _::_,[],h,_=>by cases h
 | u::us,n::ns,h,k=>by
  obtain⟨m,t,e1,rfl⟩:=k 0 u rfl;cases e1;exact .cons n t (ft (by simpa using h) λ i u e=>k (i+1) u (by simpa using e))
theorem ej:∀ {us:List Value}{ns:List Int},IntsAre us ns->aX (ns.map V.int) us
 | _,_,.nil=>.nil
 | _,_,.cons n t r=>.cons ⟨t,rfl⟩ (ej r)
theorem gm{α β:Type}{F:α->β->Prop}:∀ {l₁:List α}{l₂:List β},Paired F l₁ l₂->∀ {i:Nat}{a:α},l₁[i]? = some a->∃ b,l₂[i]? = some b/\F a b
 | _,_,.nil,i,a,h=>by simp at h
 | _,_,.cons h₁ t,0,a,h=>by cases h;exact⟨_,rfl,h₁⟩
 | _,_,.cons h₁ t,i+1,a,h=>gm t (i:=i) (by simpa using h)
section
variable {X:Cx}
theorem sE(hc:X.calm=true):bN X (.builtin "sorted") DN:=by
 intro pins s σ H vs us Q I r h;obtain⟨p,kvs,ns,rfl,e,hk,hl,q⟩:=h
 cases r with
 | cons r rr=>
  cases rr;cases r;obtain⟨z,hd,xs,rel,dd⟩:=A1 I.hok e;obtain⟨ep,hat⟩:=dd.dictAt;have hlen:kvs.length=xs.length:=MO rel;have hln:xs.length=ns.length:=by rw [←hlen];have:=Lv List.length hk;simpa using this
  refine Calls.call_function_entry kind_sorted plain_sorted entry_sorted (args_sorted1 _) ?_;unfold Builtin.«sorted»;refine wpAny_bind (m:=checkCount "sorted" 1 1 _) (wpAny_pure ?_);refine wpAny_bind (W.kdu_collect (A:=X.A.in1) (W.kdl_dict (knd:=bj X.prog X.w) (kvs:=xs) (ep:=ep) hd) (show X.A.in1.handled=none from I.ok.hd hc) hat (by omega) λ h' tk acc kp hacc=>?_);have hal:acc.toList.length=ns.length:=by rw [Array.length_toList,hacc.1,hln]
  have hI:IntsAre acc.toList ns:=by
   refine ft hal λ i u hu=>?_;obtain⟨k,x,hx,hku⟩:=hacc.2 i u (by simpa using hu);have hi:i < kvs.length:=by rw [hlen];exact(Km.mp hx).1
   have h1:kvs[i]? = some kvs[i]:=Kk hi;obtain⟨w',hw',rw'⟩:=gm rel h1;rw [hx] at hw';cases hw';have h2:(kvs.map (·.1))[i]? = some k:=by rw [KH,h1];exact Lv some rw'.1
   rw [hk,KH] at h2;obtain⟨n,hn,rfl⟩:=KA.mp h2
   rcases aN (show lX (Sum.inl n) u=true from hku) with ⟨j,t,e1,e2⟩|⟨j,t,e1,e2⟩
   ·cases e1;exact⟨n,t,hn,e2⟩
   ·cases e1
  refine Kl (wpAny_newList ?_ (by rw [hal];exact au (by omega)));have hoL:(h'.push (seqObj "list" acc.toList.toArray 0)).get? h'.objs.size=some (seqObj "list" acc.toList.toArray 0):=Kz _ rfl;refine Kl (Mm (L4 slot_list_sort ⟨_,hoL,rfl⟩ entry_list_sort (list_sort_tree hoL hI (by omega) λ out ns' a1 a2 a3=>⟨_,rfl,?_⟩) (args_list_sort _)));refine Kv ⟨_,rfl,?_⟩;have I2:Inv X pins σ H { s with heap:=h',toks:=tk }:=I.kept (t':=tk) kp;have fr:=I2.hok.fresh (Kq _);obtain⟨e',he'⟩:=sortedHeap_at (out:=out) hoL;refine⟨.ref h'.objs.size,_,I2.laid (t':=tk) (h':=sortedHeap (h'.push (seqObj "list" acc.toList.toArray 0)) h'.objs.size acc.toList out) (o:=.lst (ns'.map V.int)) (λ b u hb=>?_) (Kq _) ⟨?_,out.toList,e',ej a1,?_⟩,rfl,q ns' a2 a3 _ _ fr (Ext.new fr) aj⟩
  ·have hb':h'.get? b=some u:=hb;have hlt:=Kt hb';rw [sortedHeap_old (KL hlt) (by rw [size_push'];exact M8 hlt)];exact Kn _ hb'
  ·rw [Kr,a2.length_eq];exact au (by omega)
  ·rw [Array.toArray_toList];exact he'
end
def Ap{α β:Type}(R1:α->V->Hp->Prop)(R2:β->V->Hp->Prop)(z:α × β)(x:V)(H:Hp):Prop:=∃ p q1 q2,x=.ref p/\H p=some (.tup [q1,q2])/\R1 z.1 q1 H/\R2 z.2 q2 H
theorem j8{H:Hp}{α β:Type}{R1:α->V->Hp->Prop}{R2:β->V->Hp->Prop}(h1:∀ z y H H',R1 z y H->Ext H H'->R1 z y H')(h2:∀ z y H H',R2 z y H->Ext H H'->R2 z y H'){a b:Addr}{xs ys:List V}{zs:List α}{ws:List β}(ha:H a=some (.lst xs))(hb:H b=some (.lst ys))(al:Al (λ z y=>R1 z y H) zs xs)(bl:Al (λ z y=>R2 z y H) ws ys) :
  (∀ i z H',(zs.zip ws)[i]? = some z->Ext H H'->(Itz false false a b xs ys).go i H'/\∀ x H'',(Itz false false a b xs ys).yld i H' x H''->Ext H' H''/\Ap R1 R2 z x H'')/\∀ H',Ext H H'->(Itz false false a b xs ys).stop (zs.zip ws).length H':=by
 have wk:=zV (ka:=false) (kb:=false) ha hb;refine⟨λ i z H' hz e=>?_,λ H' e=>?_⟩
 ·obtain⟨i1,i2⟩:=Km.mp hz;rw [Lq] at i1;have hx:xs[i]? = some (xs[i]'(by rw [al.1];omega)):=Kk _;have hy:ys[i]? = some (ys[i]'(by rw [bl.1];omega)):=Kk _;have g1:=al.2 i zs[i] _ (Kk _) hx;have g2:=bl.2 i ws[i] _ (Kk _) hy;generalize (xs[i]'(by rw [al.1];omega))=x0 at hx g1;generalize (ys[i]'(by rw [bl.1];omega))=y0 at hy g2
  have hzz:(xs.zip ys)[i]? = some (x0,y0):=by
   rw [Ld];exact⟨hx,hy⟩
  obtain⟨go,yd⟩:=wk.1 i _ H' hzz e;refine⟨go,λ x H'' y=>?_⟩;obtain⟨e2,p,hp,hp2⟩:=yd x H'' y;have ez:z=(zs[i],ws[i]):=by rw [←i2,Ng]
  subst ez;exact⟨e2,p,x0,y0,hp,hp2,h1 _ _ _ _ g1 (e.trans e2),h2 _ _ _ _ g2 (e.trans e2)⟩
 ·have:=wk.2 H' e
  rwa [show (zs.zip ws).length=(xs.zip ys).length by rw [Lq,Lq,al.1,bl.1]]
def tV(i:Nat):TE:=λ σ H Q=>match σ[i]? with
 | some (some v)=>Q v H
 | _=>False
theorem Dz(i:Nat):GC i=tV i:=by
 funext σ H Q;refine propext ⟨λ ⟨v,e,q⟩=>?_,λ h=>?_⟩
 ·unfold tV;rw [e];exact q
 ·unfold tV at h;split at h
  ·rename_i v e;exact⟨v,e,h⟩
  ·exact h.elim
theorem EY{v:V}{σ:St}{H:Hp}{Q:VK}:tV 0 (some v::σ) H Q=Q v H:=rfl
theorem EX{a0:Option V}{v:V}{σ:St}{H:Hp}{Q:VK}:tV 1 (a0::some v::σ) H Q=Q v H:=rfl
theorem EW{a0 a1:Option V}{v:V}{σ:St}{H:Hp}{Q:VK}:tV 2 (a0::a1::some v::σ) H Q=Q v H:=rfl
theorem EV{a0 a1 a2:Option V}{v:V}{σ:St}{H:Hp}{Q:VK}:tV 3 (a0::a1::a2::some v::σ) H Q=Q v H:=rfl
theorem EU{a0 a1 a2 a3:Option V}{v:V}{σ:St}{H:Hp}{Q:VK}:tV 4 (a0::a1::a2::a3::some v::σ) H Q=Q v H:=rfl
theorem ET{a0 a1 a2 a3 a4:Option V}{v:V}{σ:St}{H:Hp}{Q:VK}:tV 5 (a0::a1::a2::a3::a4::some v::σ) H Q=Q v H:=rfl
theorem ES{a0 a1 a2 a3 a4 a5:Option V}{v:V}{σ:St}{H:Hp}{Q:VK}:tV 6 (a0::a1::a2::a3::a4::a5::some v::σ) H Q=Q v H:=rfl
theorem ER{a0 a1 a2 a3 a4 a5 a6:Option V}{v:V}{σ:St}{H:Hp}{Q:VK}:tV 7 (a0::a1::a2::a3::a4::a5::a6::some v::σ) H Q=Q v H:=rfl
theorem EO{a0 a1 a2 a3 a4 a5 a6 a7:Option V}{v:V}{σ:St}{H:Hp}{Q:VK}:tV 8 (a0::a1::a2::a3::a4::a5::a6::a7::some v::σ) H Q=Q v H:=rfl
theorem EN{a0 a1 a2 a3 a4 a5 a6 a7 a8:Option V}{v:V}{σ:St}{H:Hp}{Q:VK}:tV 9 (a0::a1::a2::a3::a4::a5::a6::a7::a8::some v::σ) H Q=Q v H:=rfl
theorem BK{a0 a1 a2 a3 a4 a5 a6 a7 a8 a9:Option V}{v:V}{σ:St}{H:Hp}{Q:VK}:tV 10 (a0::a1::a2::a3::a4::a5::a6::a7::a8::a9::some v::σ) H Q=Q v H:=rfl
theorem BJ{a0 a1 a2 a3 a4 a5 a6 a7 a8 a9 a10:Option V}{v:V}{σ:St}{H:Hp}{Q:VK}:tV 11 (a0::a1::a2::a3::a4::a5::a6::a7::a8::a9::a10::some v::σ) H Q=Q v H:=rfl
theorem BI{a0 a1 a2 a3 a4 a5 a6 a7 a8 a9 a10 a11:Option V}{v:V}{σ:St}{H:Hp}{Q:VK}:tV 12 (a0::a1::a2::a3::a4::a5::a6::a7::a8::a9::a10::a11::some v::σ) H Q=Q v H:=rfl
theorem BH{a0 a1 a2 a3 a4 a5 a6 a7 a8 a9 a10 a11 a12:Option V}{v:V}{σ:St}{H:Hp}{Q:VK}:tV 13 (a0::a1::a2::a3::a4::a5::a6::a7::a8::a9::a10::a11::a12::some v::σ) H Q=Q v H:=rfl
def nI0(g:Int->Int->V):R2:=λ x y H Q=>match x,y with
 | .int i,.int j=>Q (g i j) H
 | _,_=>False
theorem Ii(g:Int->Int->V)(i j:Int)(H:Hp)(Q:VK):nI0 g (.int i) (.int j) H Q=Q (g i j) H:=rfl
theorem ia(g:Int->Int->V):rI0 g=nI0 g:=by
 funext x y H Q;refine propext ⟨λ ⟨i,j,e,e',q⟩=>by subst e e';exact q,λ h=>?_⟩;unfold nI0 at h;split at h
 ·exact⟨_,_,rfl,rfl,h⟩
 ·exact h.elim
def nI(C:Int->Int->Prop)(g:Int->Int->V):R2:=λ x y H Q=>match x,y with
 | .int i,.int j=>C i j/\Q (g i j) H
 | _,_=>False
theorem J6(C:Int->Int->Prop)(g:Int->Int->V)(i j:Int)(H:Hp)(Q:VK):nI C g (.int i) (.int j) H Q=(C i j/\Q (g i j) H):=rfl
theorem tE(C:Int->Int->Prop)(g:Int->Int->V):rI C g=nI C g:=by
 funext x y H Q;refine propext ⟨λ ⟨i,j,e,e',q⟩=>by subst e e';exact q,λ h=>?_⟩;unfold nI at h;split at h
 ·exact⟨_,_,rfl,rfl,h⟩
 ·exact h.elim
def nU(g:Int->V):V->Hp->VK->Prop:=λ x H Q=>match x with
 | .int i=>Q (g i) H
 | _=>False
theorem J5(g:Int->V)(i:Int)(H:Hp)(Q:VK):nU g (.int i) H Q=Q (g i) H:=rfl
theorem HU(g:Int->V):rU g=nU g:=by
 funext x H Q;refine propext ⟨λ ⟨i,e,q⟩=>by subst e;exact q,λ h=>?_⟩;unfold nU at h;split at h
 ·exact⟨_,rfl,h⟩
 ·exact h.elim
def jv(Q:Bool->Hp->Prop):VK:=λ x H=>match x with
 | .bl k=>Q k H
 | _=>False
theorem yu(Q:Bool->Hp->Prop)(k:Bool)(H:Hp):jv Q (.bl k) H=Q k H:=rfl
theorem yW(Q:Bool->Hp->Prop):DW Q=jv Q:=by
 funext x H;refine propext ⟨λ ⟨k,e,q⟩=>by subst e;exact q,λ h=>?_⟩;unfold jv at h;split at h
 ·exact⟨_,rfl,h⟩
 ·exact h.elim
def nQ(t:TE):TT:=λ σ H Q=>t σ H (jv Q)
theorem BZ(t:TE)(σ:St)(H:Hp)(Q:Bool->Hp->Prop):nQ t σ H Q=t σ H (jv Q):=rfl
theorem gS(t:TE):xB t=nQ t:=by
 funext σ H Q
 show t σ H (DW Q)=t σ H (jv Q)
 rw [yW]
theorem vI(t:TE):tB t=nQ t:=gS t
def tK(tb:TE)(σ:St)(Q:VK):VK:=λ x H=>match x with
 | .bl c=>if c=true then tb σ H Q else Q (.bl false) H
 | _=>False
theorem CA(tb:TE)(σ:St)(Q:VK)(c:Bool)(H:Hp):tK tb σ Q (.bl c) H=(if c=true then tb σ H Q else Q (.bl false) H):=rfl
def AJ(ta tb:TE):TE:=λ σ H Q=>ta σ H (tK tb σ Q)
theorem B7(ta tb:TE)(σ:St)(H:Hp)(Q:VK):AJ ta tb σ H Q=ta σ H (tK tb σ Q):=rfl
theorem yo(ta tb:TE):DH ta tb=AJ ta tb:=by
 funext σ H Q
 show ta σ H (IG tb σ Q)=ta σ H (tK tb σ Q)
 congr 1;funext x H;refine propext ⟨λ ⟨k,e,q⟩=>by subst e;exact q,λ h=>?_⟩;unfold tK at h;split at h
 ·exact⟨_,rfl,h⟩
 ·exact h.elim
def Du(tb:TE)(σ:St)(Q:VK):VK:=λ x H=>match x with
 | .bl c=>if c=true then Q (.bl true) H else tb σ H Q
 | _=>False
theorem Fy(tb:TE)(σ:St)(Q:VK)(c:Bool)(H:Hp):Du tb σ Q (.bl c) H=(if c=true then Q (.bl true) H else tb σ H Q):=rfl
def G9(ta tb:TE):TE:=λ σ H Q=>ta σ H (Du tb σ Q)
theorem Fn(ta tb:TE)(σ:St)(H:Hp)(Q:VK):G9 ta tb σ H Q=ta σ H (Du tb σ Q):=rfl
theorem BG(ta tb:TE):IW ta tb=G9 ta tb:=by
 funext σ H Q
 show ta σ H (Kc tb σ Q)=ta σ H (Du tb σ Q)
 congr 1;funext x H;refine propext ⟨λ ⟨k,e,q⟩=>by subst e;exact q,λ h=>?_⟩;unfold Du at h;split at h
 ·exact⟨_,rfl,h⟩
 ·exact h.elim
def tF(Q:VK):VK:=λ x H=>match x with
 | .bl c=>Q (.bl (!c)) H
 | _=>False
theorem Ck(Q:VK)(c:Bool)(H:Hp):tF Q (.bl c) H=Q (.bl (!c)) H:=rfl
def AG(ta:TE):TE:=λ σ H Q=>ta σ H (tF Q)
theorem B1(ta:TE)(σ:St)(H:Hp)(Q:VK):AG ta σ H Q=ta σ H (tF Q):=rfl
theorem yn(ta:TE):DC ta=AG ta:=by
 funext σ H Q
 show ta σ H (IC Q)=ta σ H (tF Q)
 congr 1;funext x H;refine propext ⟨λ ⟨k,e,q⟩=>by subst e;exact q,λ h=>?_⟩;unfold tF at h;split at h
 ·exact⟨_,rfl,h⟩
 ·exact h.elim
def qQ(r':R2)(tc:TE)(σ:St)(y:V)(Q:VK):VK:=λ z H=>match z with
 | .bl k=>if k=true then tc σ H (GO r' y Q) else Q (.bl false) H
 | _=>False
theorem Cw(r':R2)(tc:TE)(σ:St)(y:V)(Q:VK)(k:Bool)(H:Hp):qQ r' tc σ y Q (.bl k) H=(if k=true then tc σ H (GO r' y Q) else Q (.bl false) H):=rfl
theorem CK(r':R2)(tc:TE)(σ:St)(y:V)(Q:VK):Hs r' tc σ y Q=qQ r' tc σ y Q:=by
 funext z H;refine propext ⟨λ ⟨k,e,q⟩=>by subst e;exact q,λ h=>?_⟩;unfold qQ at h;split at h
 ·exact⟨_,rfl,h⟩
 ·exact h.elim
def xI(r r':R2)(tc:TE)(σ:St)(x:V)(Q:VK):VK:=λ y H=>r x y H (qQ r' tc σ y Q)
theorem Cy(r r':R2)(tc:TE)(σ:St)(x y:V)(Q:VK)(H:Hp):xI r r' tc σ x Q y H=r x y H (qQ r' tc σ y Q):=rfl
def xJ(r r':R2)(tb tc:TE)(σ:St)(Q:VK):VK:=λ x H=>tb σ H (xI r r' tc σ x Q)
theorem Cz(r r':R2)(tb tc:TE)(σ:St)(Q:VK)(x:V)(H:Hp):xJ r r' tb tc σ Q x H=tb σ H (xI r r' tc σ x Q):=rfl
def pM(r r':R2)(ta tb tc:TE):TE:=λ σ H Q=>ta σ H (xJ r r' tb tc σ Q)
theorem yt(r r':R2)(ta tb tc:TE)(σ:St)(H:Hp)(Q:VK):pM r r' ta tb tc σ H Q=ta σ H (xJ r r' tb tc σ Q):=rfl
theorem my(r r':R2)(ta tb tc:TE):tQ r r' ta tb tc=pM r r' ta tb tc:=by
 funext σ H Q
 show ta σ H (Kd r r' tb tc σ Q)=ta σ H (xJ r r' tb tc σ Q)
 congr 1;funext x H1
 show tb σ H1 (Jy r r' tc σ x Q)=tb σ H1 (xI r r' tc σ x Q)
 congr 1;funext y H2
 show r x y H2 (Hs r' tc σ y Q)=r x y H2 (qQ r' tc σ y Q)
 rw [CK]
def xM:TGs:=λ vs σ H Q=>match vs with
 | []=>Q σ H
 | _=>False
theorem CF(σ:St)(H:Hp)(Q:St->Hp->Prop):xM [] σ H Q=Q σ H:=rfl
theorem CN:JI=xM:=by
 funext vs σ H Q;refine propext ⟨λ ⟨e,q⟩=>by subst e;exact q,λ h=>?_⟩;unfold xM at h;split at h
 ·exact⟨rfl,h⟩
 ·exact h.elim
def pR(t:TG)(u:TGs):TGs:=λ vs σ H Q=>match vs with
 | v::r=>t v σ H (kGs u r Q)
 | _=>False
theorem yB(t:TG)(u:TGs)(v:V)(r:List V)(σ:St)(H:Hp)(Q:St->Hp->Prop):pR t u (v::r) σ H Q=t v σ H (kGs u r Q):=rfl
theorem zj(t:TG)(u:TGs):D7 t u=pR t u:=by
 funext vs σ H Q;refine propext ⟨λ ⟨v,r,e,q⟩=>by subst e;exact q,λ h=>?_⟩;unfold pR at h;split at h
 ·exact⟨_,_,rfl,h⟩
 ·exact h.elim
theorem sT{α0:Type}{f:α0->List V}{B:α0->Prop}(inj:∀ a a',f a=f a'->a=a')(a:α0):(∃ a',f a=f a'/\B a')=B a:=propext ⟨λ ⟨a',e,q⟩=>by obtain rfl:=inj _ _ e;exact q,λ q=>⟨a,rfl,q⟩⟩
theorem qN{α0:Type}{f:α0->List V}{B:α0->Prop}{vs:List V}{n:Nat}(h:∃ a,vs=f a/\B a)(l:∀ a,(f a).length=n):vs.length=n:=by
 obtain⟨_,rfl,_⟩:=h;exact l _
theorem qL{α0 α1:Type}{f:α0->α1->List V}{B:α0->α1->Prop}(inj:∀ a b a' b',f a b=f a' b'->a=a'/\b=b')(a:α0)(b:α1):(∃ a' b',f a b=f a' b'/\B a' b')=B a b:=propext ⟨λ ⟨a',b',e,q⟩=>by obtain⟨rfl,rfl⟩:=inj _ _ _ _ e;exact q,λ q=>⟨a,b,rfl,q⟩⟩
theorem qM{α0 α1:Type}{f:α0->α1->List V}{B:α0->α1->Prop}{vs:List V}{n:Nat}(h:∃ a b,vs=f a b/\B a b)(l:∀ a b,(f a b).length=n):vs.length=n:=by
 obtain⟨_,_,rfl,_⟩:=h;exact l _ _
theorem pD{α0 α1 α2:Type}{f:α0->α1->α2->List V}{B:α0->α1->α2->Prop}(inj:∀ a b c a' b' c',f a b c=f a' b' c'->a=a'/\b=b'/\c=c')(a:α0)(b:α1)(c:α2):(∃ a' b' c',f a b c=f a' b' c'/\B a' b' c')=B a b c:=propext ⟨λ ⟨a',b',c',e,q⟩=>by obtain⟨rfl,rfl,rfl⟩:=inj _ _ _ _ _ _ e;exact q,λ q=>⟨a,b,c,rfl,q⟩⟩
theorem pE{α0 α1 α2:Type}{f:α0->α1->α2->List V}{B:α0->α1->α2->Prop}{vs:List V}{n:Nat}(h:∃ a b c,vs=f a b c/\B a b c)(l:∀ a b c,(f a b c).length=n):vs.length=n:=by
 obtain⟨_,_,_,rfl,_⟩:=h;exact l _ _ _
theorem xv{α0 α1 α2 α3:Type}{f:α0->α1->α2->α3->List V}{B:α0->α1->α2->α3->Prop}(inj:∀ a b c d a' b' c' d',f a b c d=f a' b' c' d'->a=a'/\b=b'/\c=c'/\d=d')(a:α0)(b:α1)(c:α2)(d:α3):(∃ a' b' c' d',f a b c d=f a' b' c' d'/\B a' b' c' d')=B a b c d:=propext ⟨λ ⟨a',b',c',d',e,q⟩=>by obtain⟨rfl,rfl,rfl,rfl⟩:=inj _ _ _ _ _ _ _ _ e;exact q,λ q=>⟨a,b,c,d,rfl,q⟩⟩
theorem xw{α0 α1 α2 α3:Type}{f:α0->α1->α2->α3->List V}{B:α0->α1->α2->α3->Prop}{vs:List V}{n:Nat}(h:∃ a b c d,vs=f a b c d/\B a b c d)(l:∀ a b c d,(f a b c d).length=n):vs.length=n:=by
 obtain⟨_,_,_,_,rfl,_⟩:=h;exact l _ _ _ _
theorem JT{α0 α1 α2 α3 α4:Type}{f:α0->α1->α2->α3->α4->List V}{B:α0->α1->α2->α3->α4->Prop}(inj:∀ a b c d i a' b' c' d' i',f a b c d i=f a' b' c' d' i'->a=a'/\b=b'/\c=c'/\d=d'/\i=i')(a:α0)(b:α1)(c:α2)(d:α3)(i:α4):(∃ a' b' c' d' i',f a b c d i=f a' b' c' d' i'/\B a' b' c' d' i')=B a b c d i:=propext ⟨λ ⟨a',b',c',d',i',e,q⟩=>by obtain⟨rfl,rfl,rfl,rfl,rfl⟩:=inj _ _ _ _ _ _ _ _ _ _ e;exact q,λ q=>⟨a,b,c,d,i,rfl,q⟩⟩
theorem JV{α0 α1 α2 α3 α4:Type}{f:α0->α1->α2->α3->α4->List V}{B:α0->α1->α2->α3->α4->Prop}{vs:List V}{n:Nat}(h:∃ a b c d i,vs=f a b c d i/\B a b c d i)(l:∀ a b c d i,(f a b c d i).length=n):vs.length=n:=by
 obtain⟨_,_,_,_,_,rfl,_⟩:=h;exact l _ _ _ _ _
theorem JS{α0 α1 α2 α3 α4 α5:Type}{f:α0->α1->α2->α3->α4->α5->List V}{B:α0->α1->α2->α3->α4->α5->Prop}(inj:∀ a b c d i j a' b' c' d' i' j',f a b c d i j=f a' b' c' d' i' j'->a=a'/\b=b'/\c=c'/\d=d'/\i=i'/\j=j')(a:α0)(b:α1)(c:α2)(d:α3)(i:α4)(j:α5):(∃ a' b' c' d' i' j',f a b c d i j=f a' b' c' d' i' j'/\B a' b' c' d' i' j')=B a b c d i j:=propext ⟨λ ⟨a',b',c',d',i',j',e,q⟩=>by obtain⟨rfl,rfl,rfl,rfl,rfl,rfl⟩:=inj _ _ _ _ _ _ _ _ _ _ _ _ e;exact q,λ q=>⟨a,b,c,d,i,j,rfl,q⟩⟩
theorem JU{α0 α1 α2 α3 α4 α5:Type}{f:α0->α1->α2->α3->α4->α5->List V}{B:α0->α1->α2->α3->α4->α5->Prop}{vs:List V}{n:Nat}(h:∃ a b c d i j,vs=f a b c d i j/\B a b c d i j)(l:∀ a b c d i j,(f a b c d i j).length=n):vs.length=n:=by
 obtain⟨_,_,_,_,_,_,rfl,_⟩:=h;exact l _ _ _ _ _ _
theorem J9{P:List Value->Prop}(h:P []):∀ us:List Value,us.length=0->P us:=λ us e=>by
 cases us with
 | nil=>exact h
 | cons a r=>cases e
theorem lU{P:List Value->Prop}(h:∀ a,P [a]):∀ us:List Value,us.length=1->P us:=λ us e=>by
 cases us with
 | nil=>cases e
 | cons x r=>exact J9 (P:=λ r=>P (x::r)) (h x) r (Mg e)
theorem nM{P:List Value->Prop}(h:∀ a b,P [a,b]):∀ us:List Value,us.length=2->P us:=λ us e=>by
 cases us with
 | nil=>cases e
 | cons x r=>exact lU (P:=λ r=>P (x::r)) (h x) r (Mg e)
theorem pF{P:List Value->Prop}(h:∀ a b c,P [a,b,c]):∀ us:List Value,us.length=3->P us:=λ us e=>by
 cases us with
 | nil=>cases e
 | cons x r=>exact nM (P:=λ r=>P (x::r)) (h x) r (Mg e)
theorem sW{P:List Value->Prop}(h:∀ a b c d,P [a,b,c,d]):∀ us:List Value,us.length=4->P us:=λ us e=>by
 cases us with
 | nil=>cases e
 | cons x r=>exact pF (P:=λ r=>P (x::r)) (h x) r (Mg e)
theorem Jl{P:List Value->Prop}(h:∀ a b c d i,P [a,b,c,d,i]):∀ us:List Value,us.length=5->P us:=λ us e=>by
 cases us with
 | nil=>cases e
 | cons x r=>exact sW (P:=λ r=>P (x::r)) (h x) r (Mg e)
theorem J8{P:List Value->Prop}(h:∀ a b c d i j,P [a,b,c,d,i,j]):∀ us:List Value,us.length=6->P us:=λ us e=>by
 cases us with
 | nil=>cases e
 | cons x r=>exact Jl (P:=λ r=>P (x::r)) (h x) r (Mg e)
section
variable {X:Cx}
theorem pvN(i:Nat){x:Str}{pos:Pos}(hN:X.N[i]? = some x:=by rfl)(hv:Vis X.env.scope x:=by first|exact Or.inl rfl|exact Or.inr (Or.inl rfl)|exact Or.inr (Or.inr rfl))(hd:(x == ("__debug__":Str))=false:=by decide)
  (hcd:(x == ("__classdict__":Str))=false:=by decide):PE X (.Name x pos) (tV i):=by rw [←Dz];exact pv i hN hv hd hcd
theorem aJ:OpR X (binaryOp .Add) (nI0 λ i j=>.int (i+j)):=by rw [←ia];exact pL
theorem aF:OpR X (binaryOp .Sub) (nI0 λ i j=>.int (i - j)):=by rw [←ia];exact EC
theorem cI:OpR X (compareOp .Lt) (nI0 λ i j=>.bl (decide (i < j))):=by rw [←ia];exact DQ
theorem jk:OpR X (compareOp .LtE) (nI0 λ i j=>.bl (decide (i<=j))):=by rw [←ia];exact HL
theorem dz:OpR X (compareOp .Gt) (nI0 λ i j=>.bl (decide (j < i))):=by rw [←ia];exact DR
theorem AE:OpR X (compareOp .GtE) (nI0 λ i j=>.bl (decide (j<=i))):=by rw [←ia];exact HM
theorem bh:OpR X (binaryOp .Mult) (nI fU λ i j=>.int (i * j)):=by rw [←tE];exact gA
theorem ef:OpR X (binaryOp .FloorDiv) (nI HD λ i j=>.int (i / j)):=by rw [←tE];exact BD
theorem kZ:OpR X (binaryOp .FloorDiv) (nI xN λ i j=>.int (i.fdiv j)):=by rw [←tE];exact yl
theorem bt:OpR X (binaryOp .Mod) (nI (λ _ j=>0 < j) λ i j=>.int (i % j)):=by rw [←tE];exact hV
theorem um:OpR X (binaryOp .Pow) (nI HC λ i j=>.int (i ^ j.toNat)):=by rw [←tE];exact ED
theorem uE:UnR X (unaryOp .USub) (nU λ i=>.int (-i)):=by rw [←HU];exact Ed
variable {a b c d e:Expr}{ta tb tc td t:TE}{pos:Pos}
theorem x8{op:CmpOp}{r:R2}(ho:OpR X (compareOp op) r)(ha:PE X a ta)(hb:PE X b tb)(hm:behindInMarks op b=false):PT X (.Compare a [op] [b] pos) (nQ (tOp r ta tb)):=by rw [←gS];exact oy ho ha hb hm
theorem Bj(h:PE X e t)(he:∀ whole,isTrue e X.env whole=(do let v ←whole;standAt e.pos;holding [v] (truthy v)):=by intro _;rfl):PT X e (nQ t):=by rw [←vI];exact Eo h he
theorem iJ{op op':CmpOp}{r r':R2}(ho:OpR X (compareOp op) r)(ho':OpR X (compareOp op') r')(ha:PE X a ta)(hb:PE X b tb)(hc:PE X c tc)
  (hm:lastMarks [op,op'] [b,c]=false:=by with_unfolding_all rfl):PE X (.Compare a [op,op'] [b,c] pos) (pM r r' ta tb tc):=by rw [←my];exact yh ho ho' ha hb hc hm
theorem vq{op op':CmpOp}{r r':R2}(ho:OpR X (compareOp op) r)(ho':OpR X (compareOp op') r')(ha:PE X a ta)(hb:PE X b tb)(hc:PE X c tc)
  (hm:lastMarks [op,op'] [b,c]=false:=by with_unfolding_all rfl):PT X (.Compare a [op,op'] [b,c] pos) (nQ (pM r r' ta tb tc)):=by rw [←gS,←my];exact x9 ho ho' ha hb hc hm
variable {rest:List Expr}
theorem By(ha:PE X a ta)(hb:PE X (.BoolOp .And (b::rest) pos) tb):PE X (.BoolOp .And (a::b::rest) pos) (AJ ta tb):=by rw [←yo];exact EB ha hb
theorem uj(ha:PE X a ta)(hb:PE X (.BoolOp .Or (b::rest) pos) tb):PE X (.BoolOp .Or (a::b::rest) pos) (G9 ta tb):=by rw [←BG];exact HI ha hb
theorem uN(ha:PE X a ta):PE X (.UnaryOp .Not a pos) (AG ta):=by rw [←yn];exact EA ha
theorem aA:PGs X [] xM:=by rw [←CN];exact Bp
theorem vx{e:Expr}{es:List Expr}{t:TG}{u:TGs}(h1:PG X e t)(h2:PGs X es u)
  (hs:(assignEach (e::es) X.env).map (·.2)=assign e X.env::(assignEach es X.env).map (·.2):=by rfl):PGs X (e::es) (pR t u):=by rw [←zj];exact yb h1 h2 hs
end
theorem Gu{c:TT}{t u:TS}{nx:St->Hp->Prop}{rt:VK}{bk ct:St->Hp->Prop}{σ:St}{H:Hp}(R:St->Hp->Prop)(h:∀ nx':St->Hp->Prop,(∀ σ' H',R σ' H'->nx' σ' H')->GD c t u ⟨nx',rt,bk,ct⟩ σ H)(k:∀ σ' H',R σ' H'->nx σ' H'):GD c t u ⟨nx,rt,bk,ct⟩ σ H:=h nx k
theorem AK{i:Nat}:ME (tV i):=by rw [←Dz];exact pN
theorem uv{g:Int->Int->V}:MR (nI0 g):=by rw [←ia];exact pO
theorem k6{t:TE}(h:ME t):MT (nQ t):=by rw [←gS];exact kj h
def Hj(neg:Bool)(x:V)(H:Hp)(Q:VK):List V->Prop:=λ xs=>fB x=true/\xs.all fB=true/\Q (.bl (if neg=true then !inV x xs else inV x xs)) H
theorem FF(neg:Bool)(x:V)(H:Hp)(Q:VK)(xs:List V):Hj neg x H Q xs=(fB x=true/\xs.all fB=true/\Q (.bl (if neg=true then !inV x xs else inV x xs)) H):=rfl
def nIn(neg:Bool):R2:=λ x y H Q=>match y with
 | .ref p=>aS (ck H p) (Hj neg x H Q)
 | _=>False
theorem Ih(neg:Bool)(x:V)(p:Addr)(H:Hp)(Q:VK):nIn neg x (.ref p) H Q=aS (ck H p) (Hj neg x H Q):=rfl
theorem El{K:W.Frag}{neg:Bool}{x y:V}{H:Hp}{Q:VK}(h:nIn neg x y H Q):rIn K neg x y H Q:=by
 unfold nIn at h;split at h
 ·rename_i p;obtain⟨xs,e,h1,h2,q⟩:=av h;exact⟨p,xs,rfl,fM e,h1,h2,q⟩
 ·exact h.elim
theorem EF{X:Cx}:OpR X (compareOp .In) (nIn false):=vF.mono λ x y H Q h=>El h
def Hf(lo hi:Option Int)(H:Hp)(Q:VK):List V->Prop:=λ xs=>¬ (HT.sIx xs.length 0 lo=0/\HT.sIx xs.length xs.length hi=xs.length)/\g8 (.tup (js xs lo hi)) H Q
def G8:V->Option Int->Option Int->Hp->VK->Prop:=λ x lo hi H Q=>match x with
 | .ref a=>aS (g9 H a) (Hf lo hi H Q)
 | _=>False
theorem Fm(a:Addr)(lo hi:Option Int)(H:Hp)(Q:VK):G8 (.ref a) lo hi H Q=aS (g9 H a) (Hf lo hi H Q):=rfl
theorem qq(xs:List V)(z:Int)(h:0<=z):js xs (some z) none=xs.drop z.toNat:=by
 unfold js;obtain⟨n,rfl⟩:=Int.eq_ofNat_of_zero_le h;rw [HT.sIx_none,HT.sIx_nat]
 show _=xs.drop n
 rcases Nb n xs.length with q|q
 ·rw [MM q];exact Lp (by rw [Mc];omega)
 ·rw [MB q,L5 (Kq _),L5 q,List.take_nil]
theorem HF{X:Cx}:SlR X G8:=Ei.mono λ x lo hi H Q h=>by
 unfold G8 at h;split at h
 ·rename_i a;obtain⟨xs,e,w,q⟩:=av h;exact⟨a,xs,rfl,SqT.of (pI e),w,q.to⟩
 ·exact h.elim
section
variable {X:Cx}
end
section
variable {prog:Program}{w:World}{A:Around}{E:Value->Shared->Prop}{s:Shared}
end
section
variable {X:Cx}
end
section
variable {k:Nat}{g:TG}{tt:TT}{te:TE}{σ:St}{Q:VK}{H:Hp}
end
structure IsC(K:W.Frag)(C:Addr):Prop where
 cl:Cls K C
 fc:W.findIn K (.ref C) "__class__"=some (some (.builtin "object.__class__"))
 ocs:W.specialIn K (.builtin "object.__class__") "__get__"=some (some (.builtin "getset_descriptor.__get__"))
 oct:W.takesIn K (.builtin "object.__class__")=some true
 mo:W.mroIn K C (.type "object")=some true
def Ha(neg:Bool):R2:=λ x y H Q=>match x,y with
 | .bl b,.bl c=>Q (.bl (if neg=true then !(b == c) else b == c)) H
 | _,_=>False
theorem Fo(neg b c:Bool)(H:Hp)(Q:VK):Ha neg (.bl b) (.bl c) H Q=Q (.bl (if neg=true then !(b == c) else b == c)) H:=rfl
section
variable {X:Cx}
theorem vE:OpR X (compareOp .IsNot) (Ha true):=by
 intro pins s σ H x y v u Q I rx ry h;unfold Ha at h;split at h
 ·rename_i b c;cases (show v=Value.bool b from rx);cases (show u=Value.bool c from ry);refine wpAny_isNot_plain (by cases b<;>cases c<;>rfl) ⟨.bl (!(b == c)),H,I,?_,h⟩
  cases b<;>cases c<;>rfl
 ·exact h.elim
end
section
variable {prog:Program}{w:World}{A:Around}{E:Value->Shared->Prop}{K:Frag}{x C dx:Addr}{s:Shared}{name:Str}{v:Value}
end
section
variable {X:Cx}{e o value:Expr}{ta tv:TE}{f:Str}{pos pos':Pos}
end
open Sem (wp)
open AutoSeq1 (wpAny_loadPart')
section
variable {X:Cx}
end
def Ea(o:Obj):Prop:=∃ vs,o.data=.fields vs/\vs[2]? = some .none
section
variable {prog:Program}{w:World}{A:Around}{E:Value->Shared->Prop}{s:Shared}
end
def JN(X:Cx):Prop:=∃ (e:Addr) (oe:Obj) (u:HO),X.A.handled=some (.ref e)/\X.H₀ e=some (.frz oe u)/\Ea oe
structure Kh(P:Program)(w:World)(K:W.Frag)(tg:Expr)(J:It)(fp:List Addr)(it:Addr)(tn:Nat->Heap->Prop):Prop where
 mem:it∈fp
 obj:∀ i h,tn i h->∀ b∈fp,∃ o,h.get? b=some o/\∀ v,o.data ≠ .cell v
 keep:∀ i h h',tn i h->(∀ b∈fp,∀ o,h.get? b=some o->h'.get? b=some o)->tn i h'
 item:∀ (X:Cx),X.prog=P->X.w=w->X.K=K->JN X->∀ (i:Nat) (pins:List (Addr × Obj)) (s:Shared) (σ:St) (H:Hp) (E:Value->Shared->Prop),Inv X pins σ H s->(∀ b∈fp,nO X pins H b)->tn i s.heap->J.go i H →
  wpAny (model P w) X.A (pyNext (.ref it)) (λ r s1=>∃ u,r=some u /\
   wpAny (model P w) X.A (letOwnedTupleGo tg (.ref it) u) (λ _ s2=>∃ x H',Inv X pins σ H' s2/\bo x u/\J.yld i H x H'/\tn (i+1) s2.heap/\∀ b∈fp,H' b=none) E s1) E s
 done:∀ (X:Cx),X.prog=P->X.w=w->X.K=K->JN X->∀ (i:Nat) (pins:List (Addr × Obj)) (s:Shared) (σ:St) (H:Hp) (E:Value->Shared->Prop),Inv X pins σ H s->(∀ b∈fp,nO X pins H b)->tn i s.heap->J.stop i H →
  wpAny (model P w) X.A (pyNext (.ref it)) (λ r s1=>r=none/\Inv X pins σ H s1) E s
section
variable {X:Cx}{tg:Expr}
end
structure IP(k:Nat)(e:Addr)(A:Around):Prop where
 hd:A.handled=some (.ref e)
 dp:A.depth+3 * k+5 < recursionLimit
 un:A.units+16 * k+200 < cLine
structure Ki(P:Program)(w:World)(K:W.Frag)(mg:Str->Option Value)(base:Heap)(CX:CXT)(k:Nat)(f:Addr)(fd:FuncData)(ps:List Str)(sp:Sp):Prop where
 len:∀ vs H Q E,sp vs H Q E->vs.length=ps.length
 run:∀ (A:Around) (outer:List Env) (s:Shared) (H:Hp) (args:Args) (us:List Value) (vs:List V) (Q:VK) (E:XK) (e:Addr) (oe:Obj) (u:HO),IP k e A->H e=some (.frz oe u)->Ea oe->zU P w K mg base A outer s H->BindsTo s fd args (ps.zip us)->aX vs us->sp vs H Q E →
  codeAny (model P w) A (.call (.ref f) args) (CR CX outer P w H s Q E) s
section
variable {X:Cx}
end
section
variable {prog:Program}{w:World}{A:Around}{E:Value->Shared->Prop}{s:Shared}
structure JQ(z TI TO i j l:Addr)(f g e:List Addr):Prop where
 ti:TI ≠ z/\TI ≠ TO/\TI ≠ i/\TI ≠ j/\TI ≠ l
 zt:z ≠ TO
 zf:z ∉ f
 zg:z ∉ g
 ze:z ∉ e
 tf:TO ∉ f
 tg:TO ∉ g
 te:TO ∉ e
 ig:i ∉ g
 ie:i ∉ e
 jf:j ∉ f
 je:j ∉ e
 lf:l ∉ f
 lg:l ∉ g
variable {z TI TO i j l:Addr}{f g e:List Addr}{ti tj tl:Nat->Heap->Prop}{vi vj vl:Nat->Option Value}{k m n:Nat}{x y u a b c:Value}
end
section
variable {prog:Program}{w:World}{A:Around}{E:Value->Shared->Prop}{s:Shared}
end
section
variable {X:Cx}
end
def Hk(Q:VK)(a:Addr)(y:V):VK:=λ z H=>∃ o,sY H a y o/\Q (o.getD z) H
def Hl(tx:TE)(σ:St)(Q:VK)(a:Addr):VK:=λ y H=>tx σ H (Hk Q a y)
theorem FJ(tx:TE)(σ:St)(Q:VK)(a:Addr)(y:V)(H:Hp):Hl tx σ Q a y H=tx σ H (Hk Q a y):=rfl
def Jv(ty tx:TE)(σ:St)(Q:VK):VK:=λ x H=>∃ a,x=.ref a/\IsD H a/\ty σ H (Hl tx σ Q a)
theorem yq(td ty tx:TE)(σ:St)(H:Hp)(Q:VK):zY td ty tx σ H Q=td σ H (Jv ty tx σ Q):=rfl
theorem eX{ty tx:TE}{σ:St}{Q:VK}{H:Hp}{a:Addr}{kvs:List (Key × V)}(e:H a=some (.dK kvs))(q:ty σ H (Hl tx σ Q a)):Jv ty tx σ Q (.ref a) H:=⟨a,rfl,.inl ⟨kvs,.inl e⟩,q⟩
theorem hU{Q:VK}{H:Hp}{a:Addr}{kvs:List (Key × V)}{k:Key}{z:V}(e:H a=some (.dK kvs))(q:Q ((dw kvs k).getD z) H):Hk Q a (kV k) z H:=⟨_,sY.k e,q⟩
section
variable {X:Cx}
end
def Ao(X:Cx)(f:Value)(ks:List Str)(r:List V->List V->Hp->VK->Prop):Prop:=∀ pins s σ H vs us zs ws Q,Inv X pins σ H s->aX vs us->aX zs ws->r vs zs H Q->wpAny (model X.prog X.w) X.A (call f us (ks.zip ws)) (EP X pins σ Q) X.xe s
def Hx(r:List V->List V->Hp->VK->Prop)(Q:VK)(vs:List V):List V->Hp->Prop:=λ zs H=>r vs zs H Q
theorem FY(r:List V->List V->Hp->VK->Prop)(Q:VK)(vs zs:List V)(H:Hp):Hx r Q vs zs H=r vs zs H Q:=rfl
def Hy(r:List V->List V->Hp->VK->Prop)(tk:TA)(σ:St)(Q:VK):List V->Hp->Prop:=λ vs H=>tk σ H (Hx r Q vs)
theorem FZ(r:List V->List V->Hp->VK->Prop)(tk:TA)(σ:St)(Q:VK)(vs:List V)(H:Hp):Hy r tk σ Q vs H=tk σ H (Hx r Q vs):=rfl
def I0(r:List V->List V->Hp->VK->Prop)(t tk:TA):TE:=λ σ H Q=>t σ H (Hy r tk σ Q)
theorem E6(r:List V->List V->Hp->VK->Prop)(t tk:TA)(σ:St)(H:Hp)(Q:VK):I0 r t tk σ H Q=t σ H (Hy r tk σ Q):=rfl
theorem vz{X:Cx}{id:String}{x:Str}{p pos:Pos}{e:Expr}{es:List Expr}{kws:List Keyword}{ks:List Str}{r:List V->List V->Hp->VK->Prop}{t tk:TA}(hc:Ao X (.builtin id) ks r)(hg:Gl X x)(hm:X.mg x=none)(hv:bootBuiltins x=some (.builtin id))(ha:PA X (e::es) t)(hk:PK X kws tk)(hn:x ≠ "__name__":=by decide)(hdb:(x == ("__debug__":Str))=false:=by decide)
  (hks:(backToKw pos (keywordEach kws X.env)).filterMap (·.1)=ks:=by rfl)
  (h1:backTo pos (starEach (e::es) X.env)=(false,eval e X.env)::backTo pos (starEach es X.env):=by rfl)
  (h2:(backTo pos (starEach (e::es) X.env)).any (·.1)=false:=by rfl)
  (h3:(backToKw pos (keywordEach kws X.env)).all (·.1.isSome)=true:=by rfl)
  (h4:(backToKw pos (keywordEach kws X.env)).any (·.1.isNone)=false:=by rfl):PE X (.Call (.Name x p) (e::es) kws pos) (I0 r t tk):=by
 intro pins s σ H Q I h;refine L7 (ic I hg hm hv ?_ hn hdb);refine callWith_kw (thn (ha pos pins s σ H _ I h) λ us s1 ⟨vs,H1,I1,r1,q1⟩=>thn (hk pos pins s1 σ H1 _ I1 q1) λ ws s2 ⟨zs,H2,I2,r2,q2⟩=>?_) h1 h2 h3 h4;rw [hks];exact hc pins s2 σ H2 vs us zs ws Q I2 r1 r2 q2
section
variable {prog:Program}{w:World}{A:Around}{R:Result->Shared->Prop}{J:Addr}{fp wr:List Addr}{G:Array GenState->Array GenState->Prop}{n:Nat}{P:Nat->Value->Prop}{St:Nat->Shared->Prop}
end
section
variable {prog:Program}{w:World}{A:Around}{R:Result->Shared->Prop}{J:Addr}{fp wr:List Addr}{G:Array GenState->Array GenState->Prop}{n:Nat}{P:Nat->Value->Prop}{St:Nat->Shared->Prop}
end
abbrev PKy:=List Int × List Int
section
variable {prog:Program}{w:World}
end
section
variable {P:Program}{w:World}{H:Hp}{h:Heap}{a:Addr}
end
section
variable {X:Cx}{pins:List (Addr × Obj)}{σ:St}{H:Hp}{s:Shared}{d b:Addr}{k:PKy}{Z:List PKy}{A:Around}{E:Value->Shared->Prop}
end
section
variable {X:Cx}
end
theorem uL{X:Cx}{tg l:Expr}{tl:TE}{K:W.Frag}(hK:X.K=K)(hl:PE X l tl):PI X tg l (Hz K tl):=by subst hK;exact Ac hl
section
variable {X:Cx}{e st:Expr}{te tst:TE}{pos p2:Pos}
end
def DM:List V->List V->Hp->VK->Prop:=λ vs zs H Q=>∃ p kvs ns,vs=[.ref p]/\zs=[.bl true]/\H p=some (.dK kvs)/\kvs.map (·.1)=ns.map (Sum.inl:Int->Key)/\ns.length < 64/\∀ ms:List Int,ms.Perm ns->ms.Pairwise (· >= ·)->g8 (.lst (ms.map V.int)) H Q
theorem xR{p:Addr}{kvs:List (Key × V)}{ns:List Int}{H:Hp}{Q:VK}(e:H p=some (.dK kvs))(hk:kvs.map (·.1)=ns.map (Sum.inl:Int->Key))(hl:ns.length < 64)(q:∀ ms:List Int,ms.Perm ns->ms.Pairwise (· >= ·)->g8 (.lst (ms.map V.int)) H Q):DM [.ref p] [.bl true] H Q:=⟨p,kvs,ns,rfl,rfl,e,hk,hl,q⟩
section
variable {X:Cx}
theorem sD(hc:X.calm=true):Ao X (.builtin "sorted") ["reverse"] DM:=by
 intro pins s σ H vs us zs ws Q I r rz h;obtain⟨p,kvs,ns,rfl,rfl,e,hk,hl,q⟩:=h
 cases rz with
 | cons rb rz=>
 cases rz;cases rb
 cases r with
 | cons r rr=>
  cases rr;cases r;obtain⟨z,hd,xs,rel,dd⟩:=A1 I.hok e;obtain⟨ep,hat⟩:=dd.dictAt;have hlen:kvs.length=xs.length:=MO rel;have hln:xs.length=ns.length:=by rw [←hlen];have:=Lv List.length hk;simpa using this
  show wpAny (model X.prog X.w) X.A (call (.builtin "sorted") [.ref p] [(Str.ofString "reverse",.bool true)]) _ _ _
  refine call_function_entry_kw kind_sorted plain_sorted entry_sorted (args_sorted_rev _ _) ?_;unfold Builtin.«sorted»;refine wpAny_bind (m:=checkCount "sorted" 1 1 _) (wpAny_pure ?_);refine wpAny_bind (W.kdu_collect (A:=X.A.in1) (W.kdl_dict (knd:=bj X.prog X.w) (kvs:=xs) (ep:=ep) hd) (show X.A.in1.handled=none from I.ok.hd hc) hat (by omega) λ h' tk acc kp hacc=>?_);have hal:acc.toList.length=ns.length:=by rw [Array.length_toList,hacc.1,hln]
  have hI:IntsAre acc.toList ns:=by
   refine ft hal λ i u hu=>?_;obtain⟨k,x,hx,hku⟩:=hacc.2 i u (by simpa using hu);have hi:i < kvs.length:=by rw [hlen];exact(Km.mp hx).1
   have h1:kvs[i]? = some kvs[i]:=Kk hi;obtain⟨w',hw',rw'⟩:=gm rel h1;rw [hx] at hw';cases hw';have h2:(kvs.map (·.1))[i]? = some k:=by rw [KH,h1];exact Lv some rw'.1
   rw [hk,KH] at h2;obtain⟨n,hn,rfl⟩:=KA.mp h2
   rcases aN (show lX (Sum.inl n) u=true from hku) with ⟨j,t,e1,e2⟩|⟨j,t,e1,e2⟩
   ·cases e1;exact⟨n,t,hn,e2⟩
   ·cases e1
  refine Kl (wpAny_newList ?_ (by rw [hal];exact au (by omega)));have hoL:(h'.push (seqObj "list" acc.toList.toArray 0)).get? h'.objs.size=some (seqObj "list" acc.toList.toArray 0):=Kz _ rfl;refine Kl (Mm (wpAny_call_entry_kw slot_list_sort ⟨_,hoL,rfl⟩ entry_list_sort (list_sort_tree_rev hoL hI (by omega) λ out ns' a1 a2 a3=>⟨_,rfl,?_⟩) (args_list_sort_rev _ _)));refine Kv ⟨_,rfl,?_⟩;have I2:Inv X pins σ H { s with heap:=h',toks:=tk }:=I.kept (t':=tk) kp;have fr:=I2.hok.fresh (Kq _);obtain⟨e',he'⟩:=sortedHeap_at (out:=out) hoL;refine⟨.ref h'.objs.size,_,I2.laid (t':=tk) (h':=sortedHeap (h'.push (seqObj "list" acc.toList.toArray 0)) h'.objs.size acc.toList out) (o:=.lst (ns'.map V.int)) (λ b u hb=>?_) (Kq _) ⟨?_,out.toList,e',ej a1,?_⟩,rfl,q ns' a2 a3 _ _ fr (Ext.new fr) aj⟩
  ·have hb':h'.get? b=some u:=hb;have hlt:=Kt hb';rw [sortedHeap_old (KL hlt) (by rw [size_push'];exact M8 hlt)];exact Kn _ hb'
  ·rw [Kr,a2.length_eq];exact au (by omega)
  ·rw [Array.toArray_toList];exact he'
end
end L2
namespace PH
def cq:List Int->Int
 | []=>1
 | n::r=>n * cq r
theorem eu:∀ ns ms:List Int,cq (ns++ms)=cq ns * cq ms
 | [],ms=>by simp [cq]
 | n::r,ms=>by simp only [List.cons_append,cq,eu r ms,LJ]
theorem qX(ns:List Int)(i:Nat)(z:Int)(h:ns[i]? = some z):cq (ns.take (i+1))=cq (ns.take i) * z:=by
 rw [LB,h,eu];simp [cq]
def InR:List Int->List Int->Prop
 | [],[]=>True
 | n::r,x::xs=>(0<=x/\x < n)/\InR r xs
 | _,_=>False
open PySem L2
def vi:V->Int
 | .int i=>i
 | _=>0
theorem fT{α:Type}(l:List α):(l.filter λ _=>true)=l:=List.filter_eq_self.mpr λ _ _=>rfl
def ae(a:Int × Int):Int × Int:=(a.1,if a.1 > 1 then a.2 else 0)
def axL(axs:List (Int × Int)):List (List Int):=axs.map λ a=>[a.1,a.2]
def bI(axs:List (Int × Int)):Int:=(axs.map λ a=>min 0 ((a.1 - 1) * a.2)).sum
def bJ(axs:List (Int × Int)):Int:=(axs.map λ a=>max 0 ((a.1 - 1) * a.2)).sum
def jt(axs:List (Int × Int)):Prop:=axs.length<=8/\∀ a∈axs,1<=a.1/\a.1<=1000000000
structure pT(room first:Int)(axs:List (Int × Int)):Prop where
 ax:jt axs
 r1:1<=room
 r2:room<=1000000000000000000
 lo:0<=first+bI (axs.map ae)
 hi:first+bJ (axs.map ae) < room
theorem jt.kept{axs:List (Int × Int)}(h:jt axs):jt (axs.map ae):=⟨by rw [Kr];exact h.1,λ a ha=>by
 obtain⟨b,hb,rfl⟩:=KG.mp ha;exact h.2 b hb⟩
def dS(room first:Int)(l:Addr):List (Str × V):=eD "axes" (.ref l) (eD "first" (.int first) (eD "room" (.int room) []))
theorem HQ:¬ (("room":Str) = "axes"):=by decide +kernel
theorem HP:¬ (("room":Str) = "first"):=by decide +kernel
theorem HS:¬ (("first":Str) = "axes"):=by decide +kernel
theorem jy(room first:Int)(l:Addr):(dS room first l).lookup ("room":Str)=some (.int room):=by
 unfold dS;rw [aM,if_neg HQ,aM,if_neg HP,aM,if_pos rfl]
theorem dA(room first:Int)(l:Addr):(dS room first l).lookup ("first":Str)=some (.int first):=by
 unfold dS;rw [aM,if_neg HS,aM,if_pos rfl]
theorem dr(room first:Int)(l:Addr):(dS room first l).lookup ("axes":Str)=some (.ref l):=by
 unfold dS;rw [aM,if_pos rfl]
theorem xQ(room first:Int)(l:Addr){m:Str}(h1:¬ m = "axes")(h2:¬ m = "first")(h3:¬ m = "room"):(dS room first l).lookup m=none:=by
 unfold dS;rw [aM,if_neg h1,aM,if_neg h2,aM,if_neg h3];rfl
theorem iI:∀ ns:List Int,(∀ n∈ns,(1:Int)<=n)->1<=cq ns
 | [],_=>by simp [cq]
 | n::ns,h=>by
  have h1:=h n Kp;have h2:=iI ns λ m hm=>h m (Ko _ hm)
  show 1<=n * cq ns
  have:=LP h1 h2 (by decide) (by omega);omega
theorem fq(a:Int × Int)(l:List (Int × Int)):bI (a::l)=min 0 ((a.1 - 1) * a.2)+bI l:=by unfold bI;simp
theorem fw(a:Int × Int)(l:List (Int × Int)):bJ (a::l)=max 0 ((a.1 - 1) * a.2)+bJ l:=by unfold bJ;simp
def xA(xs ps:List Int):Int:=(List.zipWith (λ x p=>x * p) xs ps).sum
theorem lC(ns:List Int)(h:∀ n∈ns,(1:Int)<=n)(i:Nat):cq (ns.take i)<=cq ns:=by
 have e:cq ns=cq (ns.take i) * cq (ns.drop i):=by rw [←eu,List.take_append_drop]
 have a:=iI (ns.take i) λ n hn=>h n (List.mem_of_mem_take hn);have b:=iI (ns.drop i) λ n hn=>h n (List.mem_of_mem_drop hn);rw [e];have:=KI b (show 0<=cq (ns.take i) by omega);omega
def dX(cs:List Int)(a:Int × Int):List Int:=cs.flatMap λ c=>(List.range a.1.toNat).map λ (n:Nat)=>c+(n:Int) * a.2
def bu(first:Int)(axs:List (Int × Int)):List Int:=axs.foldl dX [first]
theorem mf(cs:List Int)(a:Int × Int):(dX cs a).length=cs.length * a.1.toNat:=by
 unfold dX
 induction cs with
 | nil=>simp
 | cons c r ih=>rw [List.flatMap_cons,Ku,ih,Kr,Lw,KY,Nat.add_mul];omega
theorem pe(first:Int)(axs:List (Int × Int))(a:Int × Int):bu first (axs++[a])=dX (bu first axs) a:=by
 unfold bu;rw [List.foldl_append];rfl
theorem mH:∀ (axs:List (Int × Int)) (cs:List Int),(∀ a∈axs,(1:Int)<=a.1)->((axs.foldl dX cs).length:Int)=cs.length * cq (axs.map λ a=>a.1)
 | [],cs,_=>by simp [cq]
 | a::r,cs,h=>by
  have ha:=h a Kp;rw [List.foldl_cons,mH r (dX cs a) λ b hb=>h b (Ko _ hb),mf,Int.natCast_mul,MW (by omega),LJ];rfl
theorem jK(first:Int)(axs:List (Int × Int))(h:∀ a∈axs,(1:Int)<=a.1):((bu first axs).length:Int)=cq (axs.map λ a=>a.1):=by
 unfold bu;rw [mH axs [first] h];simp
theorem mG:∀ (axs:List (Int × Int)) (cs:List Int) (M:Int),M∈axs.foldl dX cs ↔ ∃ c∈cs,∃ xs,InR (axs.map λ a=>a.1) xs/\M=c+xA xs (axs.map λ a=>a.2)
 | [],cs,M=>by
  refine⟨λ h=>⟨M,h,[],trivial,by simp [xA]⟩,λ ⟨c,hc,xs,hx,e⟩=>?_⟩
  match xs,hx with
  | [],_=>rw [e];simpa [xA] using hc
 | a::r,cs,M=>by
  rw [List.foldl_cons,mG r (dX cs a) M]
  have de:∀ (x:Int) (xs:List Int),xA (x::xs) ((a::r).map λ a=>a.2)=x * a.2+xA xs (r.map λ a=>a.2):=λ x xs=>by
   unfold xA;rw [map_cons,List.zipWith_cons_cons,sum_cons]
  constructor
  ·rintro ⟨c,hc,xs,hx,e⟩;unfold dX at hc;obtain⟨c0,hc0,hc1⟩:=List.mem_flatMap.mp hc;obtain⟨n,hn,rfl⟩:=List.mem_map.mp hc1;have hn':=List.mem_range.mp hn;refine⟨c0,hc0,(n:Int)::xs,⟨⟨by omega,?_⟩,hx⟩,by rw [de,e];omega⟩
   show (n:Int) < a.1
   omega
  ·rintro ⟨c,hc,xs,hx,e⟩
   match xs,hx with
   | x::xs,⟨⟨h0,h1⟩,hx⟩=>
    have h1':x < a.1:=h1;refine⟨c+x * a.2,?_,xs,hx,by rw [e,de];omega⟩;unfold dX;refine List.mem_flatMap.mpr ⟨c,hc,List.mem_map.mpr ⟨x.toNat,List.mem_range.mpr (by omega),?_⟩⟩;rw [Int.toNat_of_nonneg h0]
theorem sC(first:Int)(axs:List (Int × Int))(M:Int):M∈bu first axs ↔ ∃ xs,InR (axs.map λ a=>a.1) xs/\M=first+xA xs (axs.map λ a=>a.2):=by
 unfold bu;rw [mG];refine⟨λ ⟨c,hc,xs,hx,e⟩=>⟨xs,hx,by rw [e,List.mem_singleton.mp hc]⟩,λ ⟨xs,hx,e⟩=>⟨first,List.mem_singleton.mpr rfl,xs,hx,e⟩⟩
theorem qj(f r:Int)(hr:0 < r)(hf:0<=f):Int.gcd r (f % r)=Int.gcd f r:=by
 obtain⟨n,rfl⟩:=K1 hf;obtain⟨m,rfl⟩:=K1 (Int.le_of_lt hr)
 show Nat.gcd (m:Int).natAbs (((n:Int) % (m:Int))).natAbs=Nat.gcd (n:Int).natAbs (m:Int).natAbs
 rw [←Int.natCast_emod];simp only [Int.natAbs_natCast];rw [Nat.gcd_comm n m,Nat.gcd_rec m n,Nat.gcd_comm]
theorem CM(a b:Int):Int.gcd (if a < 0 then -a else a) (if b < 0 then -b else b)=Int.gcd a b:=by
 have h:∀ x:Int,(if x < 0 then -x else x).natAbs=x.natAbs:=by
  intro x;split
  ·exact Int.natAbs_neg x
  ·rfl
 show Nat.gcd _ _=Nat.gcd _ _
 rw [h a,h b]
theorem An(a:Int):0<=(if a < 0 then -a else a):=by split<;>omega
theorem qi(f:Int)(hf:0<=f):(Int.gcd f 0:Int)=f:=by
 rw [Int.gcd_zero_right];omega
def jg(ns:List Int):Int:=ns.foldl (λ f n=>(Int.gcd f n:Int)) 0
theorem mF(ns:List Int)(i:Nat)(z:Int)(h:ns[i]? = some z):jg (ns.take (i+1))=(Int.gcd (jg (ns.take i)) z:Int):=by
 unfold jg;rw [take_add_one,h];simp [List.foldl_append]
abbrev Tm3:=Int × Int × Int
def dW(zs:List Tm3)(cs:List (Int × Int)):Int:=((zs.zip cs).map λ p=>p.1.1 * p.2.1).sum
def gy(zs:List Tm3)(cs:List (Int × Int)):Int:=((zs.zip cs).map λ p=>p.1.1 * p.2.2).sum
def b9(zs:List Tm3)(cs:List (Int × Int)):List Int:=((zs.zip cs).filter λ p=>decide (p.2.1 < p.2.2)).map λ p=>p.1.1
def cK(g l gr r:Int):Bool:=decide (g < l) || decide (gr < g) || (decide (1 < r) && decide (0 < (g - l) % r))
def jl(zs:List Tm3)(cs:List (Int × Int))(g:Int):Bool:=cK g (dW zs cs) (gy zs cs) (jg (b9 zs cs))
structure cX(zs:List Tm3):Prop where
 len:zs.length<=17
 all:∀ z∈zs,(1<=z.1/\z.1<=2000000000000000000)/\(-2000000000<=z.2.1/\z.2.1<=2000000000)/\z.2.1 < z.2.2/\z.2.2<=2000000000
structure dR(zs:List Tm3)(cs:List (Int × Int)):Prop where
 len:cs.length=zs.length
 all:∀ p∈zs.zip cs,p.1.2.1<=p.2.1/\p.2.1<=p.2.2/\p.2.2<=p.1.2.2
theorem oJ(ns:List Int):0<=jg ns:=by
 have:∀ (ns:List Int) (a:Int),0<=a->0<=ns.foldl (λ f n=>(Int.gcd f n:Int)) a:=by
  intro ns
  induction ns with
  | nil=>intro a h;exact h
  | cons n ns ih=>intro a h;exact ih _ (by show (0:Int)<=(Int.gcd a n:Int);omega)
 exact this ns 0 (K3 _)
def trP(z:Tm3)(x:V)(H:Hp):Prop:=∃ q,x=.ref q/\H q=some (.tup [.int z.1,.int z.2.1,.int z.2.2])
theorem trP.ext{z:Tm3}{x:V}{H H':Hp}(h:trP z x H)(e:Ext H H'):trP z x H':=by
 obtain⟨q,rfl,hq⟩:=h;exact⟨q,rfl,e.at hq⟩
def LAt{α:Type}(R:α->V->Hp->Prop)(H:Hp)(p:Addr)(zs:List α):Prop:=∃ ys,H p=some (.lst ys)/\Al (λ z y=>R z y H) zs ys
theorem LAt.ext{α:Type}{R:α->V->Hp->Prop}{H H':Hp}{p:Addr}{zs:List α}(hR:∀ z y H H',R z y H->Ext H H'->R z y H')(h:LAt R H p zs)(e:Ext H H'):LAt R H' p zs:=by
 obtain⟨ys,hp,al⟩:=h;exact⟨ys,e.at hp,al.imp λ _ _ r=>hR _ _ _ _ r e⟩
abbrev gL(H:Hp)(p:Addr)(zs:List Tm3):Prop:=LAt trP H p zs
abbrev cx(H:Hp)(p:Addr)(cs:List (Int × Int)):Prop:=LAt axP H p cs
theorem bO{H H':Hp}{p:Addr}{zs:List Tm3}(h:gL H p zs)(e:Ext H H'):gL H' p zs:=LAt.ext (λ _ _ _ _ r e=>r.ext e) h e
theorem ay{H H':Hp}{p:Addr}{zs:List (Int × Int)}(h:cx H p zs)(e:Ext H H'):cx H' p zs:=LAt.ext (λ _ _ _ _ r e=>r.ext e) h e
theorem lZ{H:Hp}{zs:List Tm3}{ys:List V}(al:Al (λ z y=>trP z y H) zs ys){k:Nat}(hk:k < zs.length):∃ q,atI ys (0+(k:Int))=some (.ref q)/\H q=some (.tup [.int (zs.getD k default).1,.int (zs.getD k default).2.1,.int (zs.getD k default).2.2]):=by
 have hy:ys[k]? = some (ys[k]'(by rw [al.1];exact hk)):=Kk _;obtain⟨q,h1,h2⟩:=al.2 k _ _ (Kk hk) hy;refine⟨q,by rw [K9];exact ff (by rw [hy,h1]),?_⟩;rw [show zs.getD k default=zs[k] by simp [List.getD,Kk hk]];exact h2
theorem eU{H:Hp}{zs:List (Int × Int)}{ys:List V}(al:Al (λ z y=>axP z y H) zs ys){k:Nat}(hk:k < zs.length):∃ q,atI ys (0+(k:Int))=some (.ref q)/\H q=some (.tup [.int (zs.getD k default).1,.int (zs.getD k default).2]):=by
 have hy:ys[k]? = some (ys[k]'(by rw [al.1];exact hk)):=Kk _;obtain⟨q,h1,h2⟩:=al.2 k _ _ (Kk hk) hy;refine⟨q,by rw [K9];exact ff (by rw [hy,h1]),?_⟩;rw [show zs.getD k default=zs[k] by simp [List.getD,Kk hk]];exact h2
theorem tN{H:Hp}{zs:List (Int × Int)}{ys:List V}(al:Al (λ z y=>axP z y H) zs ys):Al (xt H) (zs.map λ z=>[z.1,z.2]) ys:=by
 refine⟨by rw [al.1,Kr],λ i z y hz hy=>?_⟩;rw [KH] at hz;obtain⟨a,ha,rfl⟩:=KA.mp hz;exact al.2 i a y ha hy
theorem Al.cons'{α:Type}{R:α->V->Prop}{z:α}{y:V}{zs:List α}{ys:List V}(r:R z y)(h:Al R zs ys):Al R (z::zs) (y::ys):=⟨by simp [h.1],λ i z' y' a b=>by
 cases i with
 | zero=>cases a;cases b;exact r
 | succ n=>exact h.2 n z' y' (by simpa using a) (by simpa using b)⟩
theorem axP.upd{z:Int × Int}{y:V}{H:Hp}{p:Addr}{xs:List V}{o:HO}(h:axP z y H)(hp:H p=some (.lst xs)):axP z y (upd H p o):=by
 obtain⟨q,rfl,hq⟩:=h;exact⟨q,rfl,by rw [ak (λ e=>by rw [e,hp] at hq;cases hq)];exact hq⟩
def top(i:Nat):Stmt:=PySem.Challenge.pw_pacehall_k57_whole_cells_meet.main.body.getD i (.Pass ⟨0,0,0,0⟩)
abbrev gg:Stmt:=top 2
theorem sM:ah ["thing"] ["thing"] (aa gg):=⟨rfl,rfl,rfl,by decide +kernel,rfl,by decide +kernel,by decide +kernel⟩
abbrev iF:Stmt:=top 3
theorem dq:ah ["one", "other", "found", "rest", "smaller"] ["one", "other"] (aa iF):=⟨rfl,rfl,rfl,by decide +kernel,rfl,by decide +kernel,by decide +kernel⟩
abbrev ek:Stmt:=top 4
theorem cU:ah ["numbers", "found", "number"] ["numbers"] (aa ek):=⟨rfl,rfl,rfl,by decide +kernel,rfl,by decide +kernel,by decide +kernel⟩
abbrev dB:Stmt:=top 6
theorem pq:ah ["terms", "case"] ["terms", "case"] (aa dB):=⟨rfl,rfl,rfl,by decide +kernel,rfl,by decide +kernel,by decide +kernel⟩
abbrev b8:Stmt:=top 7
theorem jr:ah ["terms", "case"] ["terms", "case"] (aa b8):=⟨rfl,rfl,rfl,by decide +kernel,rfl,by decide +kernel,by decide +kernel⟩
abbrev fG:Stmt:=top 8
theorem xm:ah ["terms", "case"] ["terms", "case"] (aa fG):=⟨rfl,rfl,rfl,by decide +kernel,rfl,by decide +kernel,by decide +kernel⟩
abbrev kS:Stmt:=top 9
theorem ly:ah ["terms", "goal", "case", "least", "rest"] ["terms", "goal", "case"] (aa kS):=⟨rfl,rfl,rfl,by decide +kernel,rfl,by decide +kernel,by decide +kernel⟩
abbrev du:Stmt:=top 17
abbrev jD:Stmt:=top 18
abbrev fh:Stmt:=top 23
theorem pz:ah ["thing", "low", "high"] ["thing", "low", "high"] (aa fh):=⟨rfl,rfl,rfl,by decide +kernel,rfl,by decide +kernel,by decide +kernel⟩
abbrev iC:Stmt:=top 24
theorem xo:ah ["thing"] ["thing"] (aa iC):=⟨rfl,rfl,rfl,by decide +kernel,rfl,by decide +kernel,by decide +kernel⟩
abbrev iD:Stmt:=top 25
theorem xp:ah ["thing"] ["thing"] (aa iD):=⟨rfl,rfl,rfl,by decide +kernel,rfl,by decide +kernel,by decide +kernel⟩
abbrev eK:Stmt:=top 26
theorem sN:ah ["thing"] ["thing"] (aa eK):=⟨rfl,rfl,rfl,by decide +kernel,rfl,by decide +kernel,by decide +kernel⟩
abbrev fg:Stmt:=top 27
theorem pw:ah ["axis"] ["axis"] (aa fg):=⟨rfl,rfl,rfl,by decide +kernel,rfl,by decide +kernel,by decide +kernel⟩
abbrev bY:Stmt:=fY (top 28) 0
theorem jb:ah ["self", "room", "first", "axes"] ["self", "room", "first", "axes"] (aa bY):=⟨rfl,rfl,rfl,by decide +kernel,rfl,by decide +kernel,by decide +kernel⟩
abbrev gC:Stmt:=fY (top 28) 1
abbrev gD:Stmt:=fY (top 28) 2
abbrev iO:Stmt:=fY (top 28) 4
abbrev cR:Stmt:=fY (top 28) 7
theorem nK:ah ["self"] ["self"] (aa cR):=⟨rfl,rfl,rfl,by decide +kernel,rfl,by decide +kernel,by decide +kernel⟩
abbrev bX:Stmt:=fY (top 28) 8
theorem ja:ah ["self"] ["self"] (aa bX):=⟨rfl,rfl,rfl,by decide +kernel,rfl,by decide +kernel,by decide +kernel⟩
abbrev c8:Stmt:=top 30
theorem jq:ah ["one", "other"] ["one", "other"] (aa c8):=⟨rfl,rfl,rfl,by decide +kernel,rfl,by decide +kernel,by decide +kernel⟩
abbrev il:Stmt:=top 32
theorem De:ah ["one", "other"] ["one", "other"] (aa il):=⟨rfl,rfl,rfl,by decide +kernel,rfl,by decide +kernel,by decide +kernel⟩
abbrev eJ:Stmt:=top 33
theorem bL:ah ["one", "other", "lows", "highs", "pace", "size", "times", "reach", "terms"] ["one", "other"] (aa eJ):=⟨rfl,rfl,rfl,by decide +kernel,rfl,by decide +kernel,by decide +kernel⟩
abbrev cM:Stmt:=top 36
theorem nE:ah ["terms"] ["terms"] (aa cM):=⟨rfl,rfl,rfl,by decide +kernel,rfl,by decide +kernel,by decide +kernel⟩
abbrev kR:Stmt:=top 37
theorem lu:ah ["case", "k", "at", "upper", "lower"] ["case", "k", "at"] (aa kR):=⟨rfl,rfl,rfl,by decide +kernel,rfl,by decide +kernel,by decide +kernel⟩
abbrev aV:Stmt:=top 38
theorem gx:ah ["terms", "goal", "case"] ["terms", "goal", "case"] (aa aV):=⟨rfl,rfl,rfl,by decide +kernel,rfl,by decide +kernel,by decide +kernel⟩
abbrev gf:Stmt:=top 39
theorem sL:ah ["times", "bounds", "above_least", "below_greatest"] ["times", "bounds", "above_least", "below_greatest"] (aa gf):=⟨rfl,rfl,rfl,by decide +kernel,rfl,by decide +kernel,by decide +kernel⟩
abbrev iy:Stmt:=top 40
theorem bC:ah ["terms", "goal", "case", "above_least", "below_greatest", "best", "k", "bounds", "kept"] ["terms", "goal", "case"] (aa iy):=⟨rfl,rfl,rfl,by decide +kernel,rfl,by decide +kernel,by decide +kernel⟩
abbrev bF:Stmt:=top 41
theorem aw:ah ["one", "other", "terms", "numbers", "left", "term", "number", "place", "pace", "size", "taken", "many"] ["one", "other", "terms", "numbers"] (aa bF):=⟨rfl,rfl,rfl,by decide +kernel,rfl,by decide +kernel,by decide +kernel⟩
abbrev eF:Stmt:=top 42
theorem bD:ah ["one", "other", "most", "found", "terms", "goal", "cases", "paper", "looked", "case", "step", "numbers"] ["one", "other", "most"] (aa eF):=⟨rfl,rfl,rfl,by decide +kernel,rfl,by decide +kernel,by decide +kernel⟩
abbrev fH:Stmt:=top 43
theorem xn:ah ["thing", "word", "many"] ["thing", "word", "many"] (aa fH):=⟨rfl,rfl,rfl,by decide +kernel,rfl,by decide +kernel,by decide +kernel⟩
abbrev cw:Stmt:=top 44
theorem lQ:ah ["terms", "case", "number"] ["terms", "case", "number"] (aa cw):=⟨rfl,rfl,rfl,by decide +kernel,rfl,by decide +kernel,by decide +kernel⟩
abbrev iE:Stmt:=top 45
theorem mO:ah ["terms", "goal", "case", "step", "least"] ["terms", "goal", "case", "step"] (aa iE):=⟨rfl,rfl,rfl,by decide +kernel,rfl,by decide +kernel,by decide +kernel⟩
abbrev gd:Stmt:=top 46
theorem sJ:ah ["case", "step"] ["case", "step"] (aa gd):=⟨rfl,rfl,rfl,by decide +kernel,rfl,by decide +kernel,by decide +kernel⟩
abbrev gh:Stmt:=top 47
theorem dt:ah ["one", "other", "paper", "found", "cases", "step", "case"] ["one", "other", "paper"] (aa gh):=⟨rfl,rfl,rfl,by decide +kernel,rfl,by decide +kernel,by decide +kernel⟩
abbrev fk:Stmt:=top 49
theorem dG:ah ["_law_script", "_law_k", "_law_many", "_law_number", "_law_cell_here"] ["_law_script", "_law_k", "_law_many"] (aa fk):=⟨rfl,rfl,rfl,by decide +kernel,rfl,by decide +kernel,by decide +kernel⟩
abbrev eo:Stmt:=top 50
theorem nF:ah ["_law_found"] ["_law_found"] (aa eo):=⟨rfl,rfl,rfl,by decide +kernel,rfl,by decide +kernel,by decide +kernel⟩
abbrev fm:Stmt:=top 51
theorem aT:ah ["_law_script", "_law_at", "_law_factor", "_law_axes_here", "_law_count", "_law_k", "_law_cell_here", "_law_size", "_law_pace"] ["_law_script", "_law_at", "_law_factor"] (aa fm):=⟨rfl,rfl,rfl,by decide +kernel,rfl,by decide +kernel,by decide +kernel⟩
abbrev bV:Stmt:=top 52
theorem bW:ah ["_law_one", "_law_other", "_law_goal_here", "_law_low", "_law_more", "_law_least", "_law_greatest", "_law_first", "_law_room"] ["_law_one", "_law_other", "_law_goal_here", "_law_low", "_law_more"] (aa bV):=⟨rfl,rfl,rfl,by decide +kernel,rfl,by decide +kernel,by decide +kernel⟩
abbrev cN:Stmt:=top 53
theorem aR:ah ["_law_one", "_law_other", "_law_ranges", "_law_axes_here", "_law_sign", "_law_size", "_law_pace", "_law_low", "_law_high", "_law_found"] ["_law_one", "_law_other"] (aa cN):=⟨rfl,rfl,rfl,by decide +kernel,rfl,by decide +kernel,by decide +kernel⟩
abbrev c9:Stmt:=top 54
theorem ba:ah ["_law_terms_here", "_law_count", "_law_times", "_law_low", "_law_high"] ["_law_terms_here"] (aa c9):=⟨rfl,rfl,rfl,by decide +kernel,rfl,by decide +kernel,by decide +kernel⟩
abbrev cE:Stmt:=top 55
theorem cF:ah ["_law_place_here", "_law_axes_here", "_law_at", "_law_axis"] ["_law_place_here", "_law_axes_here"] (aa cE):=⟨rfl,rfl,rfl,by decide +kernel,rfl,by decide +kernel,by decide +kernel⟩
abbrev dD:Stmt:=top 56
theorem pC:ah ["_law_first", "_law_axes_here", "_law_place_here"] ["_law_first", "_law_axes_here", "_law_place_here"] (aa dD):=⟨rfl,rfl,rfl,by decide +kernel,rfl,by decide +kernel,by decide +kernel⟩
abbrev gj:Stmt:=top 57
theorem sO:ah ["_law_found", "_law_one", "_law_other", "_law_goal_here"] ["_law_found", "_law_one", "_law_other", "_law_goal_here"] (aa gj):=⟨rfl,rfl,rfl,by decide +kernel,rfl,by decide +kernel,by decide +kernel⟩
abbrev cC:Stmt:=top 58
theorem iY:ah ["_law_terms_here", "_law_case", "_law_least"] ["_law_terms_here", "_law_case"] (aa cC):=⟨rfl,rfl,rfl,by decide +kernel,rfl,by decide +kernel,by decide +kernel⟩
abbrev da:Stmt:=top 59
theorem bb:ah ["_law_numbers", "_law_found", "_law_other", "_law_one"] ["_law_numbers"] (aa da):=⟨rfl,rfl,rfl,by decide +kernel,rfl,by decide +kernel,by decide +kernel⟩
abbrev cP:Stmt:=top 60
theorem cV:ah ["_law_terms_here", "_law_goal_here", "_law_case", "_law_least", "_law_greatest", "_law_rest_here"] ["_law_terms_here", "_law_goal_here", "_law_case"] (aa cP):=⟨rfl,rfl,rfl,by decide +kernel,rfl,by decide +kernel,by decide +kernel⟩
abbrev fi:Stmt:=top 61
theorem iZ:ah ["_law_terms_here", "_law_goal_here", "_law_case", "_law_by", "_law_k"] ["_law_terms_here", "_law_goal_here", "_law_case", "_law_by"] (aa fi):=⟨rfl,rfl,rfl,by decide +kernel,rfl,by decide +kernel,by decide +kernel⟩
abbrev dH:Stmt:=top 62
theorem bp:ah ["_law_terms_here", "_law_goal_here", "_law_case", "_law_step", "_law_least", "_law_greatest", "_law_word", "_law_k", "_law_at"] ["_law_terms_here", "_law_goal_here", "_law_case", "_law_step"] (aa dH):=⟨rfl,rfl,rfl,by decide +kernel,rfl,by decide +kernel,by decide +kernel⟩
abbrev dC:Stmt:=top 63
theorem b7:ah ["_law_terms_here", "_law_goal_here", "_law_paper", "_law_bare", "_law_cases", "_law_step", "_law_case", "_law_more"] ["_law_terms_here", "_law_goal_here", "_law_paper", "_law_bare"] (aa dC):=⟨rfl,rfl,rfl,by decide +kernel,rfl,by decide +kernel,by decide +kernel⟩
abbrev et:Stmt:=top 64
theorem nJ:ah ["_law_found", "_law_terms_here", "_law_goal_here", "_law_most"] ["_law_found", "_law_terms_here", "_law_goal_here", "_law_most"] (aa et):=⟨rfl,rfl,rfl,by decide +kernel,rfl,by decide +kernel,by decide +kernel⟩
abbrev cQ:Stmt:=top 65
theorem aW:ah ["_law_first", "_law_axes_here", "_law_found", "_law_size", "_law_pace", "_law_longer", "_law_cell_here"] ["_law_first", "_law_axes_here"] (aa cQ):=⟨rfl,rfl,rfl,by decide +kernel,rfl,by decide +kernel,by decide +kernel⟩
abbrev cO:Stmt:=top 66
theorem nH:ah ["_law_script", "_law_at", "_law_axes_here"] ["_law_script", "_law_at", "_law_axes_here"] (aa cO):=⟨rfl,rfl,rfl,by decide +kernel,rfl,by decide +kernel,by decide +kernel⟩
abbrev fj:Stmt:=top 67
theorem dF:ah ["_law_script", "_law_one", "_law_other", "_law_factor", "_law_cell_here", "_law_way", "_law_goal_here"] ["_law_script", "_law_one", "_law_other", "_law_factor"] (aa fj):=⟨rfl,rfl,rfl,by decide +kernel,rfl,by decide +kernel,by decide +kernel⟩
abbrev er:Stmt:=top 68
theorem nG:ah ["_law_found", "_law_one", "_law_other", "_law_goal_here", "_law_most", "_law_meet"] ["_law_found", "_law_one", "_law_other", "_law_goal_here", "_law_most", "_law_meet"] (aa er):=⟨rfl,rfl,rfl,by decide +kernel,rfl,by decide +kernel,by decide +kernel⟩
abbrev bE:Stmt:=top 69
theorem aE:ah ["_law_script", "_law_cell_here", "_law_sizes", "_law_paces", "_law_numbers", "_law_goal_here", "_law_meet", "_law_i", "_law_j", "_law_rest_here", "_law_one", "_law_here", "_law_there", "_law_most"] ["_law_script"] (aa bE):=⟨rfl,rfl,rfl,by decide +kernel,rfl,by decide +kernel,by decide +kernel⟩
abbrev jj:Stmt:=top 70
theorem hG:ah ["_law_script", "_law_factor", "_law_one", "_law_other", "_law_goal_here", "_law_here", "_law_there", "_law_cells_here", "_law_meet", "_law_most", "_law_found"] ["_law_script"] (aa jj):=⟨rfl,rfl,rfl,by decide +kernel,rfl,by decide +kernel,by decide +kernel⟩
set_option genInjectivity false in
structure Adr where
 a_PaceError:Addr
 a_NoPlace:Addr
 a_NoView:Addr
 a_NoPair:Addr
 a_NoMost:Addr
 a_View:Addr
 a_is_whole:Addr
 d_is_whole:FuncData
 a_divisor:Addr
 d_divisor:FuncData
 a_divisor_of:Addr
 d_divisor_of:FuncData
 a_least_sum:Addr
 d_least_sum:FuncData
 a_greatest_sum:Addr
 d_greatest_sum:FuncData
 a_rest_of:Addr
 d_rest_of:FuncData
 a_end_of:Addr
 d_end_of:FuncData
 a_is_number_below:Addr
 d_is_number_below:FuncData
 a_is_place:Addr
 d_is_place:FuncData
 a_is_within:Addr
 d_is_within:FuncData
 a_is_size:Addr
 d_is_size:FuncData
 a_is_axis:Addr
 d_is_axis:FuncData
 a_are_axes:Addr
 d_are_axes:FuncData
 a_kept_axis:Addr
 d_kept_axis:FuncData
 a_View___init__:Addr
 d_View___init__:FuncData
 a_View_sizes:Addr
 d_View_sizes:FuncData
 a_View_paces:Addr
 d_View_paces:FuncData
 a_View_cell:Addr
 d_View_cell:FuncData
 a_View_least:Addr
 d_View_least:FuncData
 a_View_greatest:Addr
 d_View_greatest:FuncData
 a_refuse_rooms:Addr
 d_refuse_rooms:FuncData
 a_pulls:Addr
 d_pulls:FuncData
 a_gathered:Addr
 d_gathered:FuncData
 a_first_case:Addr
 d_first_case:FuncData
 a_parted:Addr
 d_parted:FuncData
 a_numbers_at_once:Addr
 d_numbers_at_once:FuncData
 a_narrowed:Addr
 d_narrowed:FuncData
 a_parting:Addr
 d_parting:FuncData
 a_places_by_numbers:Addr
 d_places_by_numbers:FuncData
 a_shares:Addr
 d_shares:FuncData
 a_is_step:Addr
 d_is_step:FuncData
 a_divides_all:Addr
 d_divides_all:FuncData
 a_ends_by:Addr
 d_ends_by:FuncData
 a_parts_by:Addr
 d_parts_by:FuncData
 a_is_apart:Addr
 d_is_apart:FuncData
 a__law_draw:Addr
 d__law_draw:FuncData
 a__law_whole:Addr
 d__law_whole:FuncData
 a__law_axes:Addr
 d__law_axes:FuncData
 a__law_placed:Addr
 d__law_placed:FuncData
 a__law_terms:Addr
 d__law_terms:FuncData
 a__law_product:Addr
 d__law_product:FuncData
 a__law_is_place:Addr
 d__law_is_place:FuncData
 a__law_cell:Addr
 d__law_cell:FuncData
 a__law_met:Addr
 d__law_met:FuncData
 a__law_sums:Addr
 d__law_sums:FuncData
 a__law_divisor:Addr
 d__law_divisor:FuncData
 a__law_ended:Addr
 d__law_ended:FuncData
 a__law_rest:Addr
 d__law_rest:FuncData
 a__law_behind:Addr
 d__law_behind:FuncData
 a__law_left:Addr
 d__law_left:FuncData
 a__law_apart:Addr
 d__law_apart:FuncData
 a__law_cells:Addr
 d__law_cells:FuncData
 a__law_place:Addr
 d__law_place:FuncData
 a__law_goal:Addr
 d__law_goal:FuncData
 a__law_right:Addr
 d__law_right:FuncData
 a__law_hard:Addr
 d__law_hard:FuncData
 a_law:Addr
 d_law:FuncData
structure Tx(K:W.Frag)(mg:Str->Option Value)(t:Adr):Prop where
 m_PaceError:mg "PaceError"=some (.ref t.a_PaceError)
 m_NoPlace:mg "NoPlace"=some (.ref t.a_NoPlace)
 m_NoView:mg "NoView"=some (.ref t.a_NoView)
 m_NoPair:mg "NoPair"=some (.ref t.a_NoPair)
 m_NoMost:mg "NoMost"=some (.ref t.a_NoMost)
 m_View:mg "View"=some (.ref t.a_View)
 m_MOST_ROOM:∃ tk,mg "MOST_ROOM"=some (.int 1000000000000000000 tk)
 m_MOST_SIZE:∃ tk,mg "MOST_SIZE"=some (.int 1000000000 tk)
 m_MOST_AXES:∃ tk,mg "MOST_AXES"=some (.int 8 tk)
 m_MOST_CASES:∃ tk,mg "MOST_CASES"=some (.int 100000 tk)
 cl_View:Cls K t.a_View
 na_View_axes:dP K t.a_View "axes"
 na_View_first:dP K t.a_View "first"
 na_View_room:dP K t.a_View "room"
 mk_View:Mk K t.a_View t.a_View___init__
 mt_View_sizes:Ar K t.a_View "sizes" t.a_View_sizes
 mt_View_paces:Ar K t.a_View "paces" t.a_View_paces
 mt_View_cell:Ar K t.a_View "cell" t.a_View_cell
 mt_View_least:Ar K t.a_View "least" t.a_View_least
 mt_View_greatest:Ar K t.a_View "greatest" t.a_View_greatest
 F_is_whole:Fun K "is_whole" "is_whole" gg t.a_is_whole t.d_is_whole
 m_is_whole:mg "is_whole"=some (.ref t.a_is_whole)
 b_is_whole:aC K t.d_is_whole ["thing"] []
 F_divisor:Fun K "divisor" "divisor" iF t.a_divisor t.d_divisor
 m_divisor:mg "divisor"=some (.ref t.a_divisor)
 b_divisor:aC K t.d_divisor ["one", "other"] []
 F_divisor_of:Fun K "divisor_of" "divisor_of" ek t.a_divisor_of t.d_divisor_of
 m_divisor_of:mg "divisor_of"=some (.ref t.a_divisor_of)
 b_divisor_of:aC K t.d_divisor_of ["numbers"] []
 F_least_sum:Fun K "least_sum" "least_sum" dB t.a_least_sum t.d_least_sum
 m_least_sum:mg "least_sum"=some (.ref t.a_least_sum)
 b_least_sum:aC K t.d_least_sum ["terms", "case"] []
 F_greatest_sum:Fun K "greatest_sum" "greatest_sum" b8 t.a_greatest_sum t.d_greatest_sum
 m_greatest_sum:mg "greatest_sum"=some (.ref t.a_greatest_sum)
 b_greatest_sum:aC K t.d_greatest_sum ["terms", "case"] []
 F_rest_of:Fun K "rest_of" "rest_of" fG t.a_rest_of t.d_rest_of
 m_rest_of:mg "rest_of"=some (.ref t.a_rest_of)
 b_rest_of:aC K t.d_rest_of ["terms", "case"] []
 F_end_of:Fun K "end_of" "end_of" kS t.a_end_of t.d_end_of
 m_end_of:mg "end_of"=some (.ref t.a_end_of)
 b_end_of:aC K t.d_end_of ["terms", "goal", "case"] []
 F_is_number_below:Fun K "is_number_below" "is_number_below" du t.a_is_number_below t.d_is_number_below
 m_is_number_below:mg "is_number_below"=some (.ref t.a_is_number_below)
 b_is_number_below:aC K t.d_is_number_below ["thing", "bound"] []
 F_is_place:Fun K "is_place" "is_place" jD t.a_is_place t.d_is_place
 m_is_place:mg "is_place"=some (.ref t.a_is_place)
 b_is_place:aC K t.d_is_place ["sizes", "thing"] []
 F_is_within:Fun K "is_within" "is_within" fh t.a_is_within t.d_is_within
 m_is_within:mg "is_within"=some (.ref t.a_is_within)
 b_is_within:aC K t.d_is_within ["thing", "low", "high"] []
 F_is_size:Fun K "is_size" "is_size" iC t.a_is_size t.d_is_size
 m_is_size:mg "is_size"=some (.ref t.a_is_size)
 b_is_size:aC K t.d_is_size ["thing"] []
 F_is_axis:Fun K "is_axis" "is_axis" iD t.a_is_axis t.d_is_axis
 m_is_axis:mg "is_axis"=some (.ref t.a_is_axis)
 b_is_axis:aC K t.d_is_axis ["thing"] []
 F_are_axes:Fun K "are_axes" "are_axes" eK t.a_are_axes t.d_are_axes
 m_are_axes:mg "are_axes"=some (.ref t.a_are_axes)
 b_are_axes:aC K t.d_are_axes ["thing"] []
 F_kept_axis:Fun K "kept_axis" "kept_axis" fg t.a_kept_axis t.d_kept_axis
 m_kept_axis:mg "kept_axis"=some (.ref t.a_kept_axis)
 b_kept_axis:aC K t.d_kept_axis ["axis"] []
 F_View___init__:Fun K "__init__" "View.__init__" bY t.a_View___init__ t.d_View___init__
 b_View___init__:aC K t.d_View___init__ ["self", "room", "first", "axes"] []
 F_View_sizes:Fun K "sizes" "View.sizes" gC t.a_View_sizes t.d_View_sizes
 b_View_sizes:aC K t.d_View_sizes ["self"] []
 F_View_paces:Fun K "paces" "View.paces" gD t.a_View_paces t.d_View_paces
 b_View_paces:aC K t.d_View_paces ["self"] []
 F_View_cell:Fun K "cell" "View.cell" iO t.a_View_cell t.d_View_cell
 b_View_cell:aC K t.d_View_cell ["self", "place"] []
 F_View_least:Fun K "least" "View.least" cR t.a_View_least t.d_View_least
 b_View_least:aC K t.d_View_least ["self"] []
 F_View_greatest:Fun K "greatest" "View.greatest" bX t.a_View_greatest t.d_View_greatest
 b_View_greatest:aC K t.d_View_greatest ["self"] []
 F_refuse_rooms:Fun K "refuse_rooms" "refuse_rooms" c8 t.a_refuse_rooms t.d_refuse_rooms
 m_refuse_rooms:mg "refuse_rooms"=some (.ref t.a_refuse_rooms)
 b_refuse_rooms:aC K t.d_refuse_rooms ["one", "other"] []
 F_pulls:Fun K "pulls" "pulls" il t.a_pulls t.d_pulls
 m_pulls:mg "pulls"=some (.ref t.a_pulls)
 b_pulls:aC K t.d_pulls ["one", "other"] []
 F_gathered:Fun K "gathered" "gathered" eJ t.a_gathered t.d_gathered
 m_gathered:mg "gathered"=some (.ref t.a_gathered)
 b_gathered:aC K t.d_gathered ["one", "other"] []
 F_first_case:Fun K "first_case" "first_case" cM t.a_first_case t.d_first_case
 m_first_case:mg "first_case"=some (.ref t.a_first_case)
 b_first_case:aC K t.d_first_case ["terms"] []
 F_parted:Fun K "parted" "parted" kR t.a_parted t.d_parted
 m_parted:mg "parted"=some (.ref t.a_parted)
 b_parted:aC K t.d_parted ["case", "k", "at"] []
 F_numbers_at_once:Fun K "numbers_at_once" "numbers_at_once" aV t.a_numbers_at_once t.d_numbers_at_once
 m_numbers_at_once:mg "numbers_at_once"=some (.ref t.a_numbers_at_once)
 b_numbers_at_once:aC K t.d_numbers_at_once ["terms", "goal", "case"] []
 F_narrowed:Fun K "narrowed" "narrowed" gf t.a_narrowed t.d_narrowed
 m_narrowed:mg "narrowed"=some (.ref t.a_narrowed)
 b_narrowed:aC K t.d_narrowed ["times", "bounds", "above_least", "below_greatest"] []
 F_parting:Fun K "parting" "parting" iy t.a_parting t.d_parting
 m_parting:mg "parting"=some (.ref t.a_parting)
 b_parting:aC K t.d_parting ["terms", "goal", "case"] []
 F_places_by_numbers:Fun K "places_by_numbers" "places_by_numbers" bF t.a_places_by_numbers t.d_places_by_numbers
 m_places_by_numbers:mg "places_by_numbers"=some (.ref t.a_places_by_numbers)
 b_places_by_numbers:aC K t.d_places_by_numbers ["one", "other", "terms", "numbers"] []
 F_shares:GP K "shares" "shares" eF t.a_shares t.d_shares
 m_shares:mg "shares"=some (.ref t.a_shares)
 b_shares:aC K t.d_shares ["one", "other", "most"] []
 b_shares_2:∃ tk,aC K t.d_shares ["one", "other", "most"] [Value.int 1000 tk]
 F_is_step:Fun K "is_step" "is_step" fH t.a_is_step t.d_is_step
 m_is_step:mg "is_step"=some (.ref t.a_is_step)
 b_is_step:aC K t.d_is_step ["thing", "word", "many"] []
 F_divides_all:Fun K "divides_all" "divides_all" cw t.a_divides_all t.d_divides_all
 m_divides_all:mg "divides_all"=some (.ref t.a_divides_all)
 b_divides_all:aC K t.d_divides_all ["terms", "case", "number"] []
 F_ends_by:Fun K "ends_by" "ends_by" iE t.a_ends_by t.d_ends_by
 m_ends_by:mg "ends_by"=some (.ref t.a_ends_by)
 b_ends_by:aC K t.d_ends_by ["terms", "goal", "case", "step"] []
 F_parts_by:Fun K "parts_by" "parts_by" gd t.a_parts_by t.d_parts_by
 m_parts_by:mg "parts_by"=some (.ref t.a_parts_by)
 b_parts_by:aC K t.d_parts_by ["case", "step"] []
 F_is_apart:Fun K "is_apart" "is_apart" gh t.a_is_apart t.d_is_apart
 m_is_apart:mg "is_apart"=some (.ref t.a_is_apart)
 b_is_apart:aC K t.d_is_apart ["one", "other", "paper"] []
 F__law_draw:Fun K "_law_draw" "_law_draw" fk t.a__law_draw t.d__law_draw
 m__law_draw:mg "_law_draw"=some (.ref t.a__law_draw)
 b__law_draw:aC K t.d__law_draw ["_law_script", "_law_k", "_law_many"] []
 F__law_whole:Fun K "_law_whole" "_law_whole" eo t.a__law_whole t.d__law_whole
 m__law_whole:mg "_law_whole"=some (.ref t.a__law_whole)
 b__law_whole:aC K t.d__law_whole ["_law_found"] []
 F__law_axes:Fun K "_law_axes" "_law_axes" fm t.a__law_axes t.d__law_axes
 m__law_axes:mg "_law_axes"=some (.ref t.a__law_axes)
 b__law_axes:aC K t.d__law_axes ["_law_script", "_law_at", "_law_factor"] []
 F__law_placed:Fun K "_law_placed" "_law_placed" bV t.a__law_placed t.d__law_placed
 m__law_placed:mg "_law_placed"=some (.ref t.a__law_placed)
 b__law_placed:aC K t.d__law_placed ["_law_one", "_law_other", "_law_goal_here", "_law_low", "_law_more"] []
 F__law_terms:Fun K "_law_terms" "_law_terms" cN t.a__law_terms t.d__law_terms
 m__law_terms:mg "_law_terms"=some (.ref t.a__law_terms)
 b__law_terms:aC K t.d__law_terms ["_law_one", "_law_other"] []
 F__law_product:Fun K "_law_product" "_law_product" c9 t.a__law_product t.d__law_product
 m__law_product:mg "_law_product"=some (.ref t.a__law_product)
 b__law_product:aC K t.d__law_product ["_law_terms_here"] []
 F__law_is_place:Fun K "_law_is_place" "_law_is_place" cE t.a__law_is_place t.d__law_is_place
 m__law_is_place:mg "_law_is_place"=some (.ref t.a__law_is_place)
 b__law_is_place:aC K t.d__law_is_place ["_law_place_here", "_law_axes_here"] []
 F__law_cell:Fun K "_law_cell" "_law_cell" dD t.a__law_cell t.d__law_cell
 m__law_cell:mg "_law_cell"=some (.ref t.a__law_cell)
 b__law_cell:aC K t.d__law_cell ["_law_first", "_law_axes_here", "_law_place_here"] []
 F__law_met:Fun K "_law_met" "_law_met" gj t.a__law_met t.d__law_met
 m__law_met:mg "_law_met"=some (.ref t.a__law_met)
 b__law_met:aC K t.d__law_met ["_law_found", "_law_one", "_law_other", "_law_goal_here"] []
 F__law_sums:Fun K "_law_sums" "_law_sums" cC t.a__law_sums t.d__law_sums
 m__law_sums:mg "_law_sums"=some (.ref t.a__law_sums)
 b__law_sums:aC K t.d__law_sums ["_law_terms_here", "_law_case"] []
 F__law_divisor:Fun K "_law_divisor" "_law_divisor" da t.a__law_divisor t.d__law_divisor
 m__law_divisor:mg "_law_divisor"=some (.ref t.a__law_divisor)
 b__law_divisor:aC K t.d__law_divisor ["_law_numbers"] []
 F__law_ended:Fun K "_law_ended" "_law_ended" cP t.a__law_ended t.d__law_ended
 m__law_ended:mg "_law_ended"=some (.ref t.a__law_ended)
 b__law_ended:aC K t.d__law_ended ["_law_terms_here", "_law_goal_here", "_law_case"] []
 F__law_rest:Fun K "_law_rest" "_law_rest" fi t.a__law_rest t.d__law_rest
 m__law_rest:mg "_law_rest"=some (.ref t.a__law_rest)
 b__law_rest:aC K t.d__law_rest ["_law_terms_here", "_law_goal_here", "_law_case", "_law_by"] []
 F__law_behind:Fun K "_law_behind" "_law_behind" dH t.a__law_behind t.d__law_behind
 m__law_behind:mg "_law_behind"=some (.ref t.a__law_behind)
 b__law_behind:aC K t.d__law_behind ["_law_terms_here", "_law_goal_here", "_law_case", "_law_step"] []
 F__law_left:Fun K "_law_left" "_law_left" dC t.a__law_left t.d__law_left
 m__law_left:mg "_law_left"=some (.ref t.a__law_left)
 b__law_left:aC K t.d__law_left ["_law_terms_here", "_law_goal_here", "_law_paper", "_law_bare"] []
 F__law_apart:Fun K "_law_apart" "_law_apart" et t.a__law_apart t.d__law_apart
 m__law_apart:mg "_law_apart"=some (.ref t.a__law_apart)
 b__law_apart:aC K t.d__law_apart ["_law_found", "_law_terms_here", "_law_goal_here", "_law_most"] []
 F__law_cells:Fun K "_law_cells" "_law_cells" cQ t.a__law_cells t.d__law_cells
 m__law_cells:mg "_law_cells"=some (.ref t.a__law_cells)
 b__law_cells:aC K t.d__law_cells ["_law_first", "_law_axes_here"] []
 F__law_place:Fun K "_law_place" "_law_place" cO t.a__law_place t.d__law_place
 m__law_place:mg "_law_place"=some (.ref t.a__law_place)
 b__law_place:aC K t.d__law_place ["_law_script", "_law_at", "_law_axes_here"] []
 F__law_goal:Fun K "_law_goal" "_law_goal" fj t.a__law_goal t.d__law_goal
 m__law_goal:mg "_law_goal"=some (.ref t.a__law_goal)
 b__law_goal:aC K t.d__law_goal ["_law_script", "_law_one", "_law_other", "_law_factor"] []
 F__law_right:Fun K "_law_right" "_law_right" er t.a__law_right t.d__law_right
 m__law_right:mg "_law_right"=some (.ref t.a__law_right)
 b__law_right:aC K t.d__law_right ["_law_found", "_law_one", "_law_other", "_law_goal_here", "_law_most", "_law_meet"] []
 F__law_hard:Fun K "_law_hard" "_law_hard" bE t.a__law_hard t.d__law_hard
 m__law_hard:mg "_law_hard"=some (.ref t.a__law_hard)
 b__law_hard:aC K t.d__law_hard ["_law_script"] []
 F_law:Fun K "law" "law" jj t.a_law t.d_law
 m_law:mg "law"=some (.ref t.a_law)
 b_law:aC K t.d_law ["_law_script"] []
 z_ValueError:mg "ValueError"=none
 z_abs:mg "abs"=none
 z_all:mg "all"=none
 z_bool:mg "bool"=none
 z_enumerate:mg "enumerate"=none
 z_int:mg "int"=none
 z_isinstance:mg "isinstance"=none
 z_len:mg "len"=none
 z_list:mg "list"=none
 z_max:mg "max"=none
 z_min:mg "min"=none
 z_range:mg "range"=none
 z_sorted:mg "sorted"=none
 z_str:mg "str"=none
 z_sum:mg "sum"=none
 z_tuple:mg "tuple"=none
 z_zip:mg "zip"=none
local macro_rules | `(tactic| trivial) => `(tactic| first | exact Or.inl rfl | exact Or.inr rfl | exact Or.inr (Or.inl rfl) | exact Or.inr (Or.inr rfl) | assumption)
local macro_rules | `(tactic| simp! only [$xs,*]) => do
  let ys := xs.getElems.map λ x => (⟨x.raw⟩ : Lean.TSyntax `Lean.Parser.Tactic.simpLemma)
  let zs ← ("↓reduceIte ↓mr ↓CZ ↓CY ↓CW ↓CV ↓CU ↓CT ↓CS ↓CQ ↓CP ↓CO ↓zh ↓zd ↓zc ↓zb ↓Ag ↓Ir ↓HY ↓J4 ↓Il ↓HV ↓rG ↓oY ↓rF ↓oX ↓Fz ↓E2 ↓Gd ↓E9 ↓Iq ↓HX ↓FH ↓HZ ↓FT ↓E3 ↓yA ↓Cv ↓BQ ↓wm ↓wj ↓wg ↓we ↓wc ↓wb ↓BS ↓Iz ↓Ia ↓BN ↓Ae ↓EZ ↓Cu ↓BO ↓FG ↓E4 ↓Ga ↓E8 ↓Fx ↓E1 ↓Iw ↓FD ↓Fi ↓FE ↓Iv ↓Ic ↓Fl ↓Fg ↓Ff ↓rJ ↓o6 ↓nv ↓oZ ↓rH ↓vY ↓vX ↓vW ↓vU ↓vT ↓vQ ↓vP ↓vS ↓vR ↓vO ↓vN ↓vV ↓FX ↓IA ↓Ib ↓FW ↓E7 ↓Gb ↓vL ↓Fv ↓rE ↓Ci ↓Fw ↓Fb ↓Cg ↓Fu ↓BY ↓yw ↓yx ↓Gg ↓Iy ↓Ie ↓aG ↓E5 ↓Im ↓CC ↓wa ↓vZ ↓FI ↓Gf ↓Ik ↓AN ↓EM ↓BR ↓Cd ↓BL ↓Gh ↓rP ↓rO ↓gu ↓gq ↓gn ↓lO ↓dc ↓yy ↓yz ↓FL ↓rK ↓lN ↓lL ↓lM ↓lK ↓Cp ↓Fq ↓Fs ↓Ft ↓HW ↓vJ ↓Cj ↓BM ↓Io ↓Ip ↓Fd ↓Fh ↓J7 ↓B4 ↓Cm ↓yr ↓FA ↓FC ↓Af ↓Iu ↓Ig ↓B5 ↓Cb ↓Fe ↓FV ↓CB ↓Fj ↓B8 ↓Ca ↓B9 ↓Ij ↓Ge ↓aI ↓aL ↓bP ↓BX ↓BW ↓BV ↓uQ ↓Cq ↓Cr ↓FK ↓Fp ↓Cc ↓Ce ↓Cf ↓B0 ↓rL ↓yv ↓Cn ↓B2 ↓Co ↓vM ↓B3 ↓FU ↓B6 ↓Cs ↓Ct ↓vK ↓FN ↓FO ↓CD ↓FR ↓BP ↓FP ↓FQ ↓BU ↓EY ↓EX ↓EW ↓EV ↓EU ↓ET ↓ES ↓ER ↓EO ↓EN ↓BK ↓BJ ↓BI ↓BH ↓Ii ↓J6 ↓J5 ↓yu ↓BZ ↓CA ↓B7 ↓Fy ↓Fn ↓Ck ↓B1 ↓Cw ↓Cy ↓Cz ↓yt ↓CF ↓yB ↓FF ↓Ih ↓Fm ↓Fo ↓FJ ↓yq ↓FY ↓FZ ↓E6 mr ck aO g9 xX xW yD xU sP aj A5 A7 A6 Ba Ef Bb A8 A9 xS yZ Ke IL IK IJ C7 wY zo jI iV qo eB Dj GB GA Di Option.isSome_some Option.isSome_none Option.map_some List.length_cons List.length_nil List.length_map List.map_cons List.map_nil and_true true_and and_self implies_true reduceCtorEq decide_true decide_false Bool.not_true Bool.not_false if_true if_false decide_eq_true_eq Bool.false_eq_true Bool.not_eq_true' decide_eq_false_iff_not Bool.and_true Bool.true_and Bool.and_self Bool.and_eq_true Int.reduceToNat Int.reducePow Int.reduceMul Int.reduceAdd Int.reduceSub Int.reduceNeg Int.reduceLT Int.reduceLE Int.reduceEq Int.reduceNe Int.reduceDiv Int.reduceMod Nat.reduceAdd Nat.reduceLeDiff Nat.reduceLT Nat.reduceMul Nat.reducePow gt_iff_lt ge_iff_le ne_eq false_implies true_implies eq_self String.reduceEq Int.cast_ofNat_Int not_true_eq_false not_false_eq_true false_and and_false List.cons_append List.nil_append List.append_nil IB".splitOn " ").toArray.mapM λ s => if s.startsWith "↓" then `(Lean.Parser.Tactic.simpLemma| ↓ $(Lean.mkIdent (s.replace "↓" "").toName):ident) else `(Lean.Parser.Tactic.simpLemma| $(Lean.mkIdent s.toName):ident)
  `(tactic| simp (config := { failIfUnchanged := false, maxDischargeDepth := 30, maxSteps := 10000000 }) only [$zs,*, $ys,*, *])
local macro_rules | `(%[$xs,*|$k:num]) => do
  let a := xs.getElems
  let s (i : Nat) : String := a[i]!.raw.getId.toString
  let I (n : String) : Lean.TSyntax `term := ⟨(Lean.mkIdent n.toName).raw⟩
  match k.getNat with
  | 47 => `($(a[0]!) (P := $(I "P")) (w := $(I "w")) (base := $(I "base")) $(I "T"))
  | 0 => `(@pvN _ $(a[0]!) _ _ (by rfl) (by trivial) (by decide) (by decide))
  | 1 => if a.size = 1 then `(@Dt _ _ _ _ _ $(a[0]!) (@cc _) (by rfl)) else `(@Dt _ _ _ _ _ $(a[0]!) $(a[1]!) (by rfl))
  | 2 => `(@ed _ _ _ _)
  | 7 => `(by trivial)
  | 8 => `(by omega)
  | 3 => `(@Bv _ _ _ _ _ _ _ _ _ _ _ _ _ _ _ _ $(I ("G_" ++ s 0)) ($(I "hr.mono") (by decide)) (by rfl) $(I ("T.m_" ++ s 0)) $(I ("T.F_" ++ s 0 ++ ".kp")) $(I ("T.b_" ++ s 0)) .nil tD $(a[1]!) (by decide) (by rfl) (by rfl))
  | 4 => `(@dM _ _ $(a[0]!) _ _ _ _ ($(a[1]!)).nd rfl (Or.inl rfl) $(a[2]!) (by rfl) (by trivial))
  | 5 => `(@uM _ _ $(a[0]!) _ ($(a[1]!)).nd rfl (Or.inl rfl) (by trivial))
  | 6 => `(@gR _ _ _ _ _ _ _ $(Lean.Syntax.mkStrLit (s 0)) _ $(a[1]!) (by rfl) $(I ("T.z_" ++ s 0)) (by decide +kernel) $(a[2]!) (by decide) (by decide) (by rfl) (by rfl))
  | 9 => `(@fC _ _ _ _ _ $(a)*)
  | 10 => `(@dZ _ _ _ _ _ _ _ _ $(a)*)
  | 11 => `(@AD _ _ _ _ _ _ _ $(a)*)
  | 12 => `(@kg _ _ _ $(a)*)
  | 13 => `(@uh _ _ _ _ $(a)*)
  | 14 => `(@x8 _ _ _ _ _ _ _ _ $(a)*)
  | 15 => `(@vx _ _ _ _ _ $(a)*)
  | 16 => `(@AB _ _ _ _ _ _ _ _ $(a)*)
  | 17 => `(@uM _ _ $(a)*)
  | 18 => `(@Bq _ _ _ _ _ $(a)*)
  | 19 => `(@Bj _ _ _ $(a)*)
  | 20 => `(@Ac _ _ _ _ $(a)*)
  | 21 => `(@Bt _ _ _ _ _ _ _ _ _ _ _ $(a)*)
  | 22 => `(@Ex _ _ _ _ _ $(a)*)
  | 23 => `(@Ep _ _ _ _ $(a)*)
  | 24 => `(@Br _ _ _ _ $(a)*)
  | 25 => `(@HH _ _ _ _ _ _ _ $(a)*)
  | 26 => `(@cH _ _ _ $(a)*)
  | 27 => `(@bG _ _ _ $(a)*)
  | 28 => `(@Bu _ _ _ _ _ _ _ _ $(a)*)
  | 29 => `(@Es _ _ _ _ _ _ _ _ $(a)*)
  | 30 => `(@Em _ _ _ _ $(a)*)
  | 31 => `(@Bw _ _ $(a)*)
  | 32 => `(@By _ _ _ _ _ _ _ $(a)*)
  | 33 => `(@Ez _ _ _ _ _ $(a)*)
  | 34 => `(@En _ _ _ _ _ _ _ $(a)*)
  | 35 => `(@vw _ _ _ _ _ _ $(a)*)
  | 36 => `(@Bs _ _ _ _ _ $(a)*)
  | 37 => `(@Bi _ _ _ _ $(a)*)
  | 38 => `(@Et _ _ _ _ _ _ $(a)*)
  | 39 => `(@Ew _ _ _ _ _ _ _ _ _ $(a)*)
  | 40 => `(@vy _ _ _ _ _ _ _ _ _ $(a)*)
  | 41 => `(@yc _ _ _ _ _ _ _ _ _ _ $(a)*)
  | 42 => `(@Bl _ _ _ _ _ _ _ _ _ $(a)*)
  | 43 => `(@yg _ _ _ _ _ _ _ _ _ $(a)*)
  | 44 => `(@Bk _ _ _ _ _ _ _ _ _ _ _ _ _ $(a)*)
  | 45 => `(@HJ _ _ _ _ _ _ _ _ _ _ _ _ $(a)*)
  | 46 => `(@vq _ _ _ _ _ _ _ _ _ _ _ _ $(a)*)
  | _ => Lean.Macro.throwUnsupported
local macro_rules | `(∅) => `(by rfl)
local macro_rules | `(⋯) => `(by decide)
local macro_rules | `(nofun) => `(by decide +kernel)
local macro_rules | `(tactic| ac_rfl) => `(tactic| simp! only [and_true])
local macro_rules | `(tactic| exists $x:ident) => `(tactic| replace $x := λ (_ : Unit) => $x)
section
variable {P:Program}{w:World}{K:PySem.W.Frag}{mg:Str->Option Value}{base:Heap}{t:Adr}
def ud(K:W.Frag)(a:Addr)(ns:List Int):Sp:=λ vs H Q E=>∃ (k:Int) (m:Int),vs=[.ref a,.int k,.int m]/\(SqL K H a (ns.map V.int)/\ns.length<=63/\(0<=k/\k < 1000)/\0 < m/\∀ z:Int,0<=z->z < m->Q (.int z) H)
theorem bf(K:W.Frag)(a:Addr)(ns:List Int)(k:Int)(m:Int)(H:Hp)(Q:VK)(E:XK):ud K a ns [.ref a,.int k,.int m] H Q E=(SqL K H a (ns.map V.int)/\ns.length<=63/\(0<=k/\k < 1000)/\0 < m/\∀ z:Int,0<=z->z < m->Q (.int z) H):=qL (f:=λ (k:Int) (m:Int)=>[.ref a,.int k,.int m]) (λ _ _ _ _ h=>by cases h;exact⟨rfl,rfl⟩) k m
theorem yR(K:W.Frag)(a:Addr)(ns:List Int){vs:List V}{H:Hp}{Q:VK}{E:XK}(h:ud K a ns vs H Q E):vs.length=3:=qM h λ _ _=>rfl
theorem cj(T:Tx K mg t)(a:Addr)(ns:List Int):bq P w K mg base CX0 1 t.a__law_draw t.d__law_draw ["_law_script", "_law_k", "_law_many"] (ud K a ns):=by
 refine T.F__law_draw.ok dG (λ vs H Q E h=>yR _ _ _ h) (λ c A o s H vs Q E hr h=>?_)
 ·obtain⟨k,m,rfl,hS,hl,⟨hk0,hk1⟩,hm,kk⟩:=h;have fin:∀ z:Int,Q (.int (z % m)) H:=λ z=>kk _ (Lg _ %[0|8]) (LC _ hm)
  refine⟨_,(fC (AB (oy DQ (pv 1) (gR (id := "len") cT ∅ T.z_len nofun (Dt (pv 0) cc)) (af _))
   (kg (uh (dZ hV (AD oH (pv 0) (pv 1) (λ _ _=>rfl)) (pv 2))))
   ao)
  (fC (dM (i:=3) dG.nd rfl (Or.inl rfl) (dZ pL (dZ gA (dZ gA (pv 1) (pv 1)) ed) ed))
  (fC (AB (oy DR (gR (id := "len") cT ∅ T.z_len nofun (Dt (pv 0) cc)) ed (af _))
   (fC (dM (i:=4) dG.nd rfl (Or.inl rfl) (dZ hV (AD oH (pv 0) (dZ hV (pv 1) (gR (id := "len") cT ∅ T.z_len nofun (Dt (pv 0) cc))) (λ _ _=>rfl)) ed))
   (kg (dM (i:=3) dG.nd rfl (Or.inl rfl) (dZ pL (dZ gA (pv 4) (dZ pL ed (dZ gA (dZ gA ed (pv 1)) (pv 1)))) (dZ gA (pv 1) ed)))))
   ao)
  (kg (uh (dZ hV (dZ hV (dZ gA (dZ hV (pv 3) ed) ed) ed) (pv 2))))))),?_⟩
  refine⟨_,rfl,_,rfl,a,_,rfl,.inl hS,_,_,rfl,rfl,_,rfl,?_⟩;refine JD (λ h=>?_) (λ h=>?_)
  ·have h1:k < (ns.length:Int):=by simpa using h
   obtain⟨z,hz,_⟩:=qw ns k hk0 h1;exact⟨_,rfl,_,rfl,a,_,k,_,rfl,rfl,hS,hz,_,rfl,_,_,rfl,rfl,hm,fin _⟩
  ·refine⟨_,rfl,_,rfl,_,_,rfl,rfl,.inl ⟨by omega,by omega⟩,_,_,rfl,rfl,.inr ⟨by decide,by decide⟩,_,_,rfl,rfl,?_⟩;refine⟨_,rfl,a,_,rfl,.inl hS,_,_,rfl,rfl,_,rfl,?_⟩;refine JD (λ h2=>?_) (λ h2=>?_)
   ·have h3:0 < (ns.length:Int):=by simpa using h2
    have h4:(0:Int) < ((ns.map V.int).length:Int):=by simpa using h3
    obtain⟨z,hz,_⟩:=qw ns (k % ((ns.map V.int).length:Int)) (Lg _ %[0|8]) (by have:=LC k h4;simpa using this);refine⟨_,rfl,_,rfl,_,rfl,a,_,rfl,.inl hS,_,_,rfl,rfl,h4,a,_,_,_,rfl,rfl,hS,hz,_,_,rfl,rfl,(by first|decide|(show (0:Int) < _;decide)),?_⟩;refine⟨_,rfl,_,rfl,_,_,rfl,rfl,.inl ⟨by decide,by decide⟩,_,rfl,_,_,rfl,rfl,.inr ⟨by omega,by omega⟩,_,_,rfl,rfl,_,_,rfl,rfl,?_,?_⟩
    ·refine .inl ⟨?_,?_⟩
     ·have:=Lg z (show (999999937:Int) ≠ 0 by decide);omega
     ·have:=LC z (show (0:Int) < 999999937 by decide);omega
    refine⟨_,rfl,_,_,rfl,rfl,.inr ⟨by decide,by decide⟩,_,_,rfl,rfl,?_⟩;exact⟨_,rfl,_,_,rfl,rfl,(by first|decide|(show (0:Int) < _;decide)),_,_,rfl,rfl,.inr ⟨by decide,by decide⟩,_,_,rfl,rfl,(by first|decide|(show (0:Int) < _;decide)),_,rfl,_,_,rfl,rfl,hm,fin _⟩
   ·exact⟨_,rfl,_,_,rfl,rfl,(by first|decide|(show (0:Int) < _;decide)),_,_,rfl,rfl,.inr ⟨by decide,by decide⟩,_,_,rfl,rfl,(by first|decide|(show (0:Int) < _;decide)),_,rfl,_,_,rfl,rfl,hm,fin _⟩
def kc  : Sp:=λ vs H Q E=>∃ (x:V),vs=[x]/\(aS (isW H x) (kE4 H Q))
theorem bU  (x:V) (H:Hp) (Q:VK) (E:XK):kc  [x] H Q E=(aS (isW H x) (kE4 H Q)):=sT (f:=λ (x:V)=>[x]) (λ _ _ h=>by cases h;exact rfl) x
theorem mC  {vs:List V}{H:Hp}{Q:VK}{E:XK}(h:kc  vs H Q E):vs.length=1:=qN h λ _=>rfl
theorem dI(T:Tx K mg t):bq P w K mg base CX0 1 t.a__law_whole t.d__law_whole ["_law_found"] kc:=by
 refine T.F__law_whole.ok nF (λ vs H Q E h=>mC h) (λ c A o s H vs Q E hr h=>?_)
 ·obtain⟨x,rfl,h⟩:=h;obtain⟨b,hb,k⟩:=av h;clear h;rw [AN] at k;refine⟨_,%[%[%[%[isinstance,aQ,%[%[0|0],%[%[(.ty "int"),(.type "int"),_,∅,T.z_int,nofun,rfl,⋯,⋯|31]|1]|1]|6],%[(@uN _ _ _ _ %[isinstance,aQ,%[%[0|0],%[%[(.ty "bool"),(.type "bool"),_,∅,T.z_bool,nofun,rfl,⋯,⋯|31]|1]|1]|6])|33]|32]|13]|12],?_⟩;rw [show start ["_law_found"] [x]=[some (x)] from rfl]
  cases x with
  | int i=>cases hb;ac_rfl
  | bl i=>cases hb;ac_rfl
  | non=>cases hb;ac_rfl
  | str i=>cases hb;ac_rfl
  | ref p=>
   obtain⟨rfl,o,ho,ht⟩:=uT hb
   rcases ht with ht|ht|ht<;>ac_rfl
  | _=>cases hb
theorem cD(T:Tx K mg t):bq P w K mg base CX0 1 t.a_is_whole t.d_is_whole ["thing"] kc:=by
 refine T.F_is_whole.ok sM (λ vs H Q E h=>mC h) (λ c A o s H vs Q E hr h=>?_)
 ·obtain⟨x,rfl,h⟩:=h;obtain⟨b,hb,k⟩:=av h;clear h;rw [AN] at k;refine⟨_,%[%[%[%[isinstance,aQ,%[%[0|0],%[%[(.ty "int"),(.type "int"),_,∅,T.z_int,nofun,rfl,⋯,⋯|31]|1]|1]|6],%[(@uN _ _ _ _ %[isinstance,aQ,%[%[0|0],%[%[(.ty "bool"),(.type "bool"),_,∅,T.z_bool,nofun,rfl,⋯,⋯|31]|1]|1]|6])|33]|32]|13]|12],?_⟩;rw [show start ["thing"] [x]=[some (x)] from rfl]
  cases x with
  | int i=>cases hb;ac_rfl
  | bl i=>cases hb;ac_rfl
  | non=>cases hb;ac_rfl
  | str i=>cases hb;ac_rfl
  | ref p=>
   obtain⟨rfl,o,ho,ht⟩:=uT hb
   rcases ht with ht|ht|ht<;>ac_rfl
  | _=>cases hb
def kC  : Sp:=λ vs H Q E=>∃ (i:Int) (lo:Int) (hi:Int),vs=[.int i,.int lo,.int hi]/\(Q (.bl (decide (lo<=i) && decide (i<=hi))) H)
theorem jL  (i:Int) (lo:Int) (hi:Int) (H:Hp) (Q:VK) (E:XK):kC  [.int i,.int lo,.int hi] H Q E=(Q (.bl (decide (lo<=i) && decide (i<=hi))) H):=pD (f:=λ (i:Int) (lo:Int) (hi:Int)=>[.int i,.int lo,.int hi]) (λ _ _ _ _ _ _ h=>by cases h;exact⟨rfl,rfl,rfl⟩) i lo hi
theorem rQ  {vs:List V}{H:Hp}{Q:VK}{E:XK}(h:kC  vs H Q E):vs.length=3:=pE h λ _ _ _=>rfl
theorem gE(T:Tx K mg t):bq P w K mg base CX0 2 t.a_is_within t.d_is_within ["thing", "low", "high"] kC:=by
 have G_is_whole:=%[cD|47];refine T.F_is_within.ok pz (λ vs H Q E h=>rQ h) (λ c A o s H vs Q E hr h=>?_)
 ·obtain⟨i,lo,hi,rfl,k⟩:=h;refine⟨_,%[%[%[%[is_whole,%[%[0|0]|1]|3],%[(@iJ _ _ _ _ _ _ _ _ _ _ _ _ jk jk %[1|0] %[0|0] %[2|0] ∅)|33]|32]|13]|12],?_⟩;rw [show start ["thing", "low", "high"] [.int i,.int lo,.int hi]=[some (.int i),some (.int lo),some (.int hi)] from rfl]
  by_cases h0:lo<=i
  ·rw [KN h0,Bool.true_and] at k;simp! only [↓bU]
  ·rw [KD h0,Bool.false_and] at k;simp! only [↓bU]
def tR  : Sp:=λ vs H Q E=>∃ (i:Int),vs=[.int i]/\(Q (.bl (decide (1<=i) && decide (i<=1000000000))) H)
theorem zE  (i:Int) (H:Hp) (Q:VK) (E:XK):tR  [.int i] H Q E=(Q (.bl (decide (1<=i) && decide (i<=1000000000))) H):=sT (f:=λ (i:Int)=>[.int i]) (λ _ _ h=>by cases h;exact rfl) i
theorem yF  {vs:List V}{H:Hp}{Q:VK}{E:XK}(h:tR  vs H Q E):vs.length=1:=qN h λ _=>rfl
theorem rg(T:Tx K mg t):bq P w K mg base CX0 3 t.a_is_size t.d_is_size ["thing"] tR:=by
 have G_is_within:=%[gE|47];refine T.F_is_size.ok xo (λ vs H Q E h=>yF h) (λ c A o s H vs Q E hr h=>?_)
 ·obtain⟨i,rfl,k⟩:=h;refine⟨_,%[%[%[is_within,%[%[0|0],%[%[0|2],%[(@ki _ _ (.int 1000000000) _ _ ∅ T.m_MOST_SIZE.choose_spec ⟨_,rfl⟩ ⋯)|1]|1]|1]|3]|13]|12],?_⟩;rw [show start ["thing"] [.int i]=[some (.int i)] from rfl];simp! only [↓jL]
abbrev qI  (p:Addr) (H:Hp) (Q:VK) (E:XK):Prop:=∃ a:Int × Int,H p=some (.tup [.int a.1,.int a.2])/\1<=a.1/\a.1<=1000000000/\Q (.bl true) H
def ue  : Sp:=λ vs H Q E=>∃ (p:Addr),vs=[.ref p]/\(qI  p H Q E)
theorem zN  (p:Addr) (H:Hp) (Q:VK) (E:XK):ue  [.ref p] H Q E=(qI  p H Q E):=sT (f:=λ (p:Addr)=>[.ref p]) (λ _ _ h=>by cases h;exact rfl) p
theorem yS  {vs:List V}{H:Hp}{Q:VK}{E:XK}(h:ue  vs H Q E):vs.length=1:=qN h λ _=>rfl
theorem rh(T:Tx K mg t):bq P w K mg base CX0 4 t.a_is_axis t.d_is_axis ["thing"] ue:=by
 have G_is_size:=%[rg|47];have G_is_whole:=%[cD|47];refine T.F_is_axis.ok xp (λ vs H Q E h=>yS h) (λ c A o s H vs Q E hr h=>?_)
 ·obtain⟨p,rfl,a,hp,h1,h2,k⟩:=h;refine⟨_,%[%[%[%[isinstance,aQ,%[%[0|0],%[%[(.ty "tuple"),(.type "tuple"),_,∅,T.z_tuple,nofun,rfl,⋯,⋯|31]|1]|1]|6],%[%[(bH hr.units),%[len,az,%[%[0|0]|1]|6],%[0|2],(af _)|28],%[%[is_size,%[%[aB,%[0|0],%[0|2],(λ _ _=>rfl)|11]|1]|3],%[%[is_whole,%[%[aB,%[0|0],%[0|2],(λ _ _=>rfl)|11]|1]|3]|33]|32]|32]|32]|13]|12],?_⟩;rw [show start ["thing"] [.ref p]=[some (.ref p)] from rfl];simp! only [↓zE,↓bU]
abbrev qA  (p:Addr) (H:Hp) (Q:VK) (E:XK):Prop:=∃ a:Int × Int,H p=some (.tup [.int a.1,.int a.2])/\∀ (r:Addr) (H':Hp),H r=none->Ext H H'->H' r=some (.tup [.int (ae a).1,.int (ae a).2])->Q (.ref r) H'
def tW  : Sp:=λ vs H Q E=>∃ (p:Addr),vs=[.ref p]/\(qA  p H Q E)
theorem zH  (p:Addr) (H:Hp) (Q:VK) (E:XK):tW  [.ref p] H Q E=(qA  p H Q E):=sT (f:=λ (p:Addr)=>[.ref p]) (λ _ _ h=>by cases h;exact rfl) p
theorem yJ  {vs:List V}{H:Hp}{Q:VK}{E:XK}(h:tW  vs H Q E):vs.length=1:=qN h λ _=>rfl
theorem nh(T:Tx K mg t):bq P w K mg base CX0 1 t.a_kept_axis t.d_kept_axis ["axis"] tW:=by
 refine T.F_kept_axis.ok pw (λ vs H Q E h=>yJ h) (λ c A o s H vs Q E hr h=>?_)
 ·obtain⟨p,rfl,a,hp,k⟩:=h;refine⟨_,%[%[%[%[%[aB,%[0|0],%[0|2],(λ _ _=>rfl)|11],%[(@kX _ _ _ _ _ _ _ _ %[dz,%[aB,%[0|0],%[0|2],(λ _ _=>rfl)|11],%[0|2],(af _)|14] %[aB,%[0|0],%[0|2],(λ _ _=>rfl)|11] %[0|2])|1]|1]|18]|13]|12],?_⟩;rw [show start ["axis"] [.ref p]=[some (.ref p)] from rfl];have e1:(ae a).1=a.1:=rfl
  by_cases h1:1 < a.1
  ·have e2:(ae a).2=a.2:=Kx h1;rw [e1,e2] at k;ac_rfl;exact λ r H' h e h'=>k r H' h e h'
  ·have e2:(ae a).2=0:=Ks h1;rw [e1,e2] at k;ac_rfl;exact λ r H' h e h'=>k r H' h e h'
abbrev qJ  (p:Addr) (H:Hp) (Q:VK) (E:XK):Prop:=∃ axs:List (Int × Int),dj H p (axL axs)/\jt axs/\∀ H',Ext H H'->Q (.bl true) H'
def uf  : Sp:=λ vs H Q E=>∃ (p:Addr),vs=[.ref p]/\(qJ  p H Q E)
theorem zO  (p:Addr) (H:Hp) (Q:VK) (E:XK):uf  [.ref p] H Q E=(qJ  p H Q E):=sT (f:=λ (p:Addr)=>[.ref p]) (λ _ _ h=>by cases h;exact rfl) p
theorem yT  {vs:List V}{H:Hp}{Q:VK}{E:XK}(h:uf  vs H Q E):vs.length=1:=qN h λ _=>rfl
theorem oT(T:Tx K mg t):bq P w K mg base CX0 5 t.a_are_axes t.d_are_axes ["thing"] uf:=by
 have G_is_axis:=%[rh|47];refine T.F_are_axes.ok sN (λ vs H Q E h=>yT h) (λ c A o s H vs Q E hr h=>?_)
 ·obtain⟨p,rfl,axs,⟨ys,hp,al⟩,ha,k⟩:=h;refine⟨_,%[%[%[%[isinstance,aQ,%[%[0|0],%[%[(.ty "list"),(.type "list"),_,∅,T.z_list,nofun,rfl,⋯,⋯|31]|1]|1]|6],%[%[jk,%[len,az,%[%[0|0]|1]|6],(@ki _ _ (.int 8) _ _ ∅ T.m_MOST_AXES.choose_spec ⟨_,rfl⟩ ⋯),(af _)|28],%[%[all,(iL rfl),%[%[(["axis", "thing"]),(1),(aD (aa eK) ["thing"] rfl rfl nofun),rfl,%[%[0|0]|20],(λ C s₀ H₀ ex pn=>%[(0),_,(show List.Nodup (["axis", "thing"]:List Str) from by decide +kernel),rfl,(Or.inl rfl),%[0|7]|17]),(λ C s₀ H₀ ex pn=>(@aH _)),(λ C s₀ H₀ ex pn=>%[is_axis,%[%[0|0]|1]|3]),(by intros;rfl)|21]|1]|6]|33]|32]|32]|13]|12],?_⟩;rw [show start ["thing"] [.ref p]=[some (.ref p)] from rfl];have hl:ys.length=axs.length:=by rw [al.1];unfold axL;rw [length_map]
  have hl8:(axs.length:Int)<=8:=by have:=ha.1;omega
  ac_rfl;refine aP ys (λ _=>true) (λ _=>.bl true) (λ z x H'=>x=z/\H' p=some (.lst ys)) (ju hp).1 (ju hp).2 (au %[0|8]) ?_ ?_
  ·intro D z x H' N1 N0 hz hD e ⟨hx,_⟩ k1 _;subst hx;obtain⟨i,hi,rfl⟩:=List.getElem_of_mem hz;have hi':i < axs.length:=by rw [←hl];exact hi
   obtain⟨q,hq1,hq2⟩:=al.2 i [axs[i].1,axs[i].2] ys[i] (by unfold axL;rw [getElem?_map,getElem?_eq_getElem hi'];rfl) (getElem?_eq_getElem hi);have hb:=ha.2 _ (getElem_mem hi');have k1':=k1 rfl H' (Ext.refl _);have hq3:=e.at hq2;rw [hq1];clear k1 k hp al;simp! only [↓aL,↓aI];rw [zN];exact⟨axs[i],hq3,hb.1,hb.2,k1'⟩
  ·intro D H' hD e hD';have hD2:H' D=some (.lst ((ys.map λ _=>true).map V.bl)):=by rw [hD',fT,Lh];rfl
   have e2:((ys.map λ _=>true).all id)=true:=by rw [Nc];simp
   have k2:=k H' e;clear k hD';ac_rfl
theorem pb{zs:List (List Int)}{ys:List V}{H:Hp}(al:Al (xt H) zs ys){i:Nat}{y:V}(h:ys[i]? = some y):∃ z,zs[i]? = some z/\xt H z y:=by
 have hi:i < ys.length:=(Km.mp h).1;have hz:zs[i]? = some (zs[i]'(by rw [←al.1];exact hi)):=Kk _;exact⟨_,hz,al.2 i _ y hz h⟩
theorem Jj(x:Int):min 0 x=if x < 0 then x else 0:=by split<;>omega
theorem Jk(x:Int):max 0 x=if 0 < x then x else 0:=by split<;>omega
structure bc(C:Addr)(H:Hp)(v:Addr)(room first:Int)(axs:List (Int × Int)):Prop where
 ob:∃ dx l,H v=some (.ins C dx (dS room first l))/\dj H l (axL axs)
theorem bc.ext{C:Addr}{H H':Hp}{v:Addr}{room first:Int}{axs:List (Int × Int)}(h:bc C H v room first axs)(e:Ext H H'):bc C H' v room first axs:=by
 obtain⟨dx,l,h1,h2⟩:=h.ob;exact⟨⟨dx,l,e.at h1,h2.ext e⟩⟩
theorem AF{m:Str}(h:m∈([("sizes":Str), "paces", "count", "cell", "cell_at", "cells", "least", "greatest"]:List Str)):¬ m = "axes" /\ ¬ m = "first" /\ ¬ m = "room":=by
 revert m
 decide +kernel
theorem vn(room first:Int)(l:Addr){m:Str}(h:m∈([("sizes":Str), "paces", "count", "cell", "cell_at", "cells", "least", "greatest"]:List Str)):(dS room first l).lookup m=none:=xQ room first l (AF h).1 (AF h).2.1 (AF h).2.2
theorem IM{H:Hp}{axs:List (Int × Int)}{ys:List V}(al:Al (xt H) (axL axs) ys){i:Nat}{y:V}(h:ys[i]? = some y):∃ a q,axs[i]? = some a/\y=.ref q/\H q=some (.tup [.int a.1,.int a.2]):=by
 obtain⟨z,hz,q,hq,hq2⟩:=pb al h;unfold axL at hz;rw [getElem?_map] at hz;obtain⟨a,ha,rfl⟩:=Option.map_eq_some_iff.mp hz;exact⟨a,q,ha,hq,hq2⟩
abbrev mW(C:Addr)(v:Addr)(H:Hp)(Q:VK)(E:XK):Prop:=∃ (room first:Int) (axs:List (Int × Int)),bc C H v room first axs/\jt axs/\∀ H',Ext H H'->Q (.int (first+bI axs)) H'
def kd(C:Addr):Sp:=λ vs H Q E=>∃ (v:Addr),vs=[.ref v]/\(mW C v H Q E)
theorem xf(C:Addr)(v:Addr)(H:Hp)(Q:VK)(E:XK):kd C [.ref v] H Q E=(mW C v H Q E):=sT (f:=λ (v:Addr)=>[.ref v]) (λ _ _ h=>by cases h;exact rfl) v
theorem wx(C:Addr){vs:List V}{H:Hp}{Q:VK}{E:XK}(h:kd C vs H Q E):vs.length=1:=qN h λ _=>rfl
theorem lI(T:Tx K mg t):bq P w K mg base CX0 1 t.a_View_least t.d_View_least ["self"] (kd t.a_View):=by
 refine T.F_View_least.ok nK (λ vs H Q E h=>wx _ h) (λ c A o s H vs Q E hr h=>?_)
 ·obtain⟨v,rfl,room,first,axs,vo,hax,k⟩:=h;obtain⟨dx,l,hv,ys,hl,al⟩:=vo.ob;have c1:=T.cl_View;have c2:=T.na_View_first;have c3:=T.na_View_axes
  have f1:=dA room first l
  have f2:=dr room first l
  refine⟨_,%[%[%[aJ,%[%[0|0],rfl|36],%[sum,(bz rfl),%[%[(["size", "pace", "self"]),(2),(aD (aa cR) ["self"] rfl rfl nofun),rfl,%[%[%[0|0],rfl|36]|20],(λ C s₀ H₀ ex pn=>(%[(2),rfl,%[%[(0),_,(show List.Nodup (["size", "pace", "self"]:List Str) from by decide +kernel),rfl,(Or.inl rfl),%[0|7]|17],%[%[(1),_,(show List.Nodup (["size", "pace", "self"]:List Str) from by decide +kernel),rfl,(Or.inl rfl),%[0|7]|17],(@aA _),∅|15],∅|15],∅,∅|22].mono λ _ _ _ _ h=>aU h)),(λ C s₀ H₀ ex pn=>(@aH _)),(λ C s₀ H₀ ex pn=>%[min,(ei rfl),%[%[0|2],%[%[bh,%[aF,%[0|0],%[0|2]|10],%[1|0]|10]|1]|1]|6]),(by intros;rfl)|21]|1]|6]|10]|13]|12],?_⟩;rw [show start ["self"] [.ref v]=[some (.ref v)] from rfl];ac_rfl;have wk:=fV (K:=K) (R:=axP) (λ _ _ _ _ h e=>h.ext e) hl (me al);refine aP axs (λ _=>true) (λ a=>.int (min 0 ((a.1 - 1) * a.2))) axP wk.1 wk.2 (au (by have:=hax.1;omega)) ?_ ?_
  ·intro D a x H' N1 N0 ha hD e ⟨q,hx,hq⟩ k1 _;subst hx;have hb:=hax.2 a ha;have k1':=k1 rfl H' (Ext.refl _);have hcm:fU (a.1 - 1) a.2:=.inl ⟨by omega,by omega⟩;rw [Jj] at k1';clear k1 k;simp! only [↓bP,↓aI]
  ·intro D H' hD e hD';have hD2:H' D=some (.lst ((axs.map λ a=>min 0 ((a.1 - 1) * a.2)).map V.int)):=by rw [hD',fT,Lh];rfl
   have k2:Q (.int (first+(axs.map λ a=>min 0 ((a.1 - 1) * a.2)).sum)) H':=k H' e;clear k hD';ac_rfl
abbrev gG(C:Addr)(v:Addr)(H:Hp)(Q:VK)(E:XK):Prop:=∃ (room first:Int) (axs:List (Int × Int)),bc C H v room first axs/\jt axs/\∀ H',Ext H H'->Q (.int (first+bJ axs)) H'
def gc(C:Addr):Sp:=λ vs H Q E=>∃ (v:Addr),vs=[.ref v]/\(gG C v H Q E)
theorem nD(C:Addr)(v:Addr)(H:Hp)(Q:VK)(E:XK):gc C [.ref v] H Q E=(gG C v H Q E):=sT (f:=λ (v:Addr)=>[.ref v]) (λ _ _ h=>by cases h;exact rfl) v
theorem ny(C:Addr){vs:List V}{H:Hp}{Q:VK}{E:XK}(h:gc C vs H Q E):vs.length=1:=qN h λ _=>rfl
theorem gJ(T:Tx K mg t):bq P w K mg base CX0 1 t.a_View_greatest t.d_View_greatest ["self"] (gc t.a_View):=by
 refine T.F_View_greatest.ok ja (λ vs H Q E h=>ny _ h) (λ c A o s H vs Q E hr h=>?_)
 ·obtain⟨v,rfl,room,first,axs,vo,hax,k⟩:=h;obtain⟨dx,l,hv,ys,hl,al⟩:=vo.ob;have c1:=T.cl_View;have c2:=T.na_View_first;have c3:=T.na_View_axes
  have f1:=dA room first l
  have f2:=dr room first l
  refine⟨_,%[%[%[aJ,%[%[0|0],rfl|36],%[sum,(bz rfl),%[%[(["size", "pace", "self"]),(2),(aD (aa bX) ["self"] rfl rfl nofun),rfl,%[%[%[0|0],rfl|36]|20],(λ C s₀ H₀ ex pn=>(%[(2),rfl,%[%[(0),_,(show List.Nodup (["size", "pace", "self"]:List Str) from by decide +kernel),rfl,(Or.inl rfl),%[0|7]|17],%[%[(1),_,(show List.Nodup (["size", "pace", "self"]:List Str) from by decide +kernel),rfl,(Or.inl rfl),%[0|7]|17],(@aA _),∅|15],∅|15],∅,∅|22].mono λ _ _ _ _ h=>aU h)),(λ C s₀ H₀ ex pn=>(@aH _)),(λ C s₀ H₀ ex pn=>%[max,(dm rfl),%[%[0|2],%[%[bh,%[aF,%[0|0],%[0|2]|10],%[1|0]|10]|1]|1]|6]),(by intros;rfl)|21]|1]|6]|10]|13]|12],?_⟩;rw [show start ["self"] [.ref v]=[some (.ref v)] from rfl];ac_rfl;have wk:=fV (K:=K) (R:=axP) (λ _ _ _ _ h e=>h.ext e) hl (me al);refine aP axs (λ _=>true) (λ a=>.int (max 0 ((a.1 - 1) * a.2))) axP wk.1 wk.2 (au (by have:=hax.1;omega)) ?_ ?_
  ·intro D a x H' N1 N0 ha hD e ⟨q,hx,hq⟩ k1 _;subst hx;have hb:=hax.2 a ha;have k1':=k1 rfl H' (Ext.refl _);have hcm:fU (a.1 - 1) a.2:=.inl ⟨by omega,by omega⟩;rw [Jk] at k1';clear k1 k;simp! only [↓bP,↓aI]
  ·intro D H' hD e hD';have hD2:H' D=some (.lst ((axs.map λ a=>max 0 ((a.1 - 1) * a.2)).map V.int)):=by rw [hD',fT,Lh];rfl
   have k2:Q (.int (first+(axs.map λ a=>max 0 ((a.1 - 1) * a.2)).sum)) H':=k H' e;clear k hD';ac_rfl
def Jm(H:Hp)(Q:VK)(f:Int × Int->Int)(axs:List (Int × Int)):Prop:=∀ (r:Addr) (H':Hp),H r=none->Ext H H'->H' r=some (.lst ((axs.map f).map V.int))->Q (.ref r) H'
abbrev sR(C:Addr)(v:Addr)(H:Hp)(Q:VK)(E:XK):Prop:=∃ (room first:Int) (axs:List (Int × Int)),bc C H v room first axs/\axs.length<=8/\Jm H Q (λ a=>a.1) axs
def GR(C:Addr):Sp:=λ vs H Q E=>∃ (v:Addr),vs=[.ref v]/\(sR C v H Q E)
abbrev sS(C:Addr)(v:Addr)(H:Hp)(Q:VK)(E:XK):Prop:=∃ (room first:Int) (axs:List (Int × Int)),bc C H v room first axs/\axs.length<=8/\Jm H Q (λ a=>a.2) axs
def GS(C:Addr):Sp:=λ vs H Q E=>∃ (v:Addr),vs=[.ref v]/\(sS C v H Q E)
def nV(C:Addr):Sp:=λ vs H Q E=>∃ (x:Addr) (room:Int) (first:Int) (l:Addr),vs=[.ref x,.int room,.int first,.ref l]/\(∃ (dx:Addr) (axs:List (Int × Int)),H x=some (.ins C dx [])/\dj H l (axL axs)/\pT room first axs/\∀ (H':Hp) (D:Addr),(∀ H0,Ext H0 H->H0 x=none->Ext H0 H')->H D=none->H' x=some (.ins C dx (dS room first D))->dj H' D (axL (axs.map ae))->Q .non H')
theorem mJ(C:Addr)(x:Addr)(room:Int)(first:Int)(l:Addr)(H:Hp)(Q:VK)(E:XK):nV C [.ref x,.int room,.int first,.ref l] H Q E=(∃ (dx:Addr) (axs:List (Int × Int)),H x=some (.ins C dx [])/\dj H l (axL axs)/\pT room first axs/\∀ (H':Hp) (D:Addr),(∀ H0,Ext H0 H->H0 x=none->Ext H0 H')->H D=none->H' x=some (.ins C dx (dS room first D))->dj H' D (axL (axs.map ae))->Q .non H'):=xv (f:=λ (x:Addr) (room:Int) (first:Int) (l:Addr)=>[.ref x,.int room,.int first,.ref l]) (λ _ _ _ _ _ _ _ _ h=>by cases h;exact⟨rfl,rfl,rfl,rfl⟩) x room first l
theorem wq(C:Addr){vs:List V}{H:Hp}{Q:VK}{E:XK}(h:nV C vs H Q E):vs.length=4:=xw h λ _ _ _ _=>rfl
theorem gK(T:Tx K mg t):bq P w K mg base CX0 6 t.a_View___init__ t.d_View___init__ ["self", "room", "first", "axes"] (nV t.a_View):=by
 have G_is_within:=%[gE|47];have G_is_whole:=%[cD|47];have G_are_axes:=%[oT|47];have G_kept_axis:=%[nh|47];have G_View_least:=%[lI|47];have G_View_greatest:=%[gJ|47];refine T.F_View___init__.ok jb (λ vs H Q E h=>wq _ h) (λ c A o s H vs Q E hr h=>?_)
 ·obtain⟨x,room,first,l,rfl,dx,axs,hx,tl,vok,k⟩:=h;have c1:=T.cl_View;have c2:=T.na_View_first;have c3:=T.na_View_axes;have c4:=T.na_View_room;refine⟨_,%[%[(PW.pt %[%[%[%[is_within,%[%[1|0],%[%[0|2],%[(@ki _ _ (.int 1000000000000000000) _ _ ∅ T.m_MOST_ROOM.choose_spec ⟨_,rfl⟩ ⋯)|1]|1]|1]|3],(by intros;rfl)|19]|23],%[%[%[%[is_whole,%[%[2|0]|1]|3],(by intros;rfl)|19]|23],%[%[%[%[are_axes,%[%[3|0]|1]|3],(by intros;rfl)|19]|23]|30]|25]|25]),%[(@gP _ _)|12],(@ao _)|16],%[(@kW _ _ _ _ _ _ _ _ %[0|0] %[1|0] rfl),%[(@kW _ _ _ _ _ _ _ _ %[0|0] %[2|0] rfl),%[(@kW _ _ _ _ _ _ _ _ %[0|0] %[(["axis", "self", "room", "first", "axes"]),(1),(aD (aa bY) ["self", "room", "first", "axes"] rfl rfl nofun),rfl,%[%[3|0]|20],(λ C s₀ H₀ ex pn=>%[(0),_,(show List.Nodup (["axis", "self", "room", "first", "axes"]:List Str) from by decide +kernel),rfl,(Or.inl rfl),%[0|7]|17]),(λ C s₀ H₀ ex pn=>(@aH _)),(λ C s₀ H₀ ex pn=>%[kept_axis,%[%[0|0]|1]|3]),(by intros;rfl)|21] rfl),%[%[(PW.pt %[%[cI,(@mq _ _ _ _ _ _ _ _ _ _ _ _ _ _ _ _ _ %[0|0] T.cl_View T.mt_View_least G_View_least (hr.mono ⋯) T.b_View_least .nil tD ∅),%[0|2],(af _)|14],%[%[AE,(@mq _ _ _ _ _ _ _ _ _ _ _ _ _ _ _ _ _ %[0|0] T.cl_View T.mt_View_greatest G_View_greatest (hr.mono ⋯) T.b_View_greatest .nil tD ∅),%[1|0],(af _)|14]|30]|25]),%[(@gP _ _)|12],(@ao _)|16]|12]|9]|9]|9]|9],?_⟩;rw [show start ["self", "room", "first", "axes"] [.ref x,.int room,.int first,.ref l]=[some (.ref x),some (.int room),some (.int first),some (.ref l)] from rfl];have r1:=vok.r1;have r2:=vok.r2;simp! only [↓jL,↓bU];rw [zO];refine⟨axs,tl,vok.ax,λ H1 e1=>?_⟩;have hx1:=e1.at hx;have tl1:=tl.ext e1;clear hx tl;ac_rfl;refine⟨(show (1:Nat) < 1000 by decide),?_⟩;obtain⟨ys,hl1,al1⟩:=tl1;have hlx:l ≠ x:=λ z=>by rw [z,hx1] at hl1;cases hl1
  have hx2:(upd H1 x (HO.ins t.a_View dx (eD "first" (V.int first) (eD "room" (V.int room) [])))) x=some (HO.ins t.a_View dx (eD "first" (V.int first) (eD "room" (V.int room) []))):=aj
  have hl2:(upd H1 x (HO.ins t.a_View dx (eD "first" (V.int first) (eD "room" (V.int room) [])))) l=some (.lst ys):=by rw [ak hlx];exact hl1
  have al2:Al (λ a y=>axP a y (upd H1 x (HO.ins t.a_View dx (eD "first" (V.int first) (eD "room" (V.int room) []))))) axs ys:=(me al1).imp λ a y ⟨q,hy,hq⟩=>⟨q,hy,by rw [ak (λ z=>by rw [z,hx1] at hq;cases hq)];exact hq⟩;have b2:∀ H0,Ext H0 H->H0 x=none->Ext H0 (upd H1 x (HO.ins t.a_View dx (eD "first" (V.int first) (eD "room" (V.int room) [])))):=λ H0 q0 q1=>(q0.trans e1).put q1
  have b3:∀ b,b ≠ x->(upd H1 x (HO.ins t.a_View dx (eD "first" (V.int first) (eD "room" (V.int room) [])))) b=none->H b=none:=λ b hb q=>by rw [ak hb] at q;exact e1.free q
  generalize upd H1 x (HO.ins t.a_View dx (eD "first" (V.int first) (eD "room" (V.int room) [])))=H2 at hx2 hl2 al2 b2 b3;clear hl1 al1 hx1;ac_rfl;have wk:=fV (K:=K) (R:=axP) (λ _ _ _ _ h e=>h.ext e) hl2 al2;refine qr axs (λ _=>true) axP (λ D a y H'=>∃ q,y=.ref q/\q ≠ D/\H' q=some (.tup [.int (ae a).1,.int (ae a).2])) wk.1 wk.2 (λ D _ y H1 H2 ⟨q,h1,h2,h3⟩ e=>⟨q,h1,h2,e.at h3⟩) (λ D _ y H1 o ⟨q,h1,h2,h3⟩=>⟨q,h1,h2,by rw [ak h2];exact h3⟩) (au (by have:=vok.ax.1;omega)) ?_ ?_
  ·intro D a y H' N1 N0 ha hD e ⟨ys0,hys0⟩ ⟨q,hy,hq⟩ k1 _;subst hy;have k1':=k1 rfl;clear k1 k;simp! only [↓aL,↓aI];rw [zH];exact⟨a,hq,λ r H'' hr' e' h'=>k1' _ H'' e' ⟨r,rfl,(λ z=>by rw [z,hys0] at hr';cases hr'),h'⟩⟩
  ·intro D zs H3 hD e3 hD3 al3;rw [fT] at al3;have hx3:=e3.at hx2;have hDx:D ≠ x:=λ z=>by rw [z,hx2] at hD;cases hD
   clear wk;ac_rfl;refine⟨(show (2:Nat) < 1000 by decide),?_⟩
   have tt:dj (upd H3 x (HO.ins t.a_View dx (dS room first D))) D (axL (axs.map ae)):=by
    refine⟨zs,by rw [ak hDx];exact hD3,?_,λ i z y hz hy=>?_⟩
    ·rw [al3.1];unfold axL;rw [length_map,length_map]
    ·unfold axL at hz;rw [map_map,getElem?_map] at hz;obtain⟨a,ha,rfl⟩:=Option.map_eq_some_iff.mp hz;obtain⟨q,hq1,_,hq3⟩:=al3.2 i a y ha hy;exact⟨q,hq1,by rw [ak (λ z=>by rw [z,hx3] at hq3;cases hq3)];exact hq3⟩
   have b4:∀ H0,Ext H0 H->H0 x=none->Ext H0 (upd H3 x (HO.ins t.a_View dx (dS room first D))):=λ H0 q0 q1=>((b2 H0 q0 q1).trans e3).put q1;have hx4:(upd H3 x (HO.ins t.a_View dx (dS room first D))) x=some (HO.ins t.a_View dx (dS room first D)):=aj
   have f1:=vn room first D (m := "least") nofun
   have f2:=vn room first D (m := "greatest") nofun
   refine⟨f1,?_⟩
   show kd t.a_View [V.ref x] (upd H3 x (HO.ins t.a_View dx (dS room first D))) _ _
   generalize upd H3 x (HO.ins t.a_View dx (dS room first D))=H4 at tt b4 hx4
   have vo:bc t.a_View H4 x room first (axs.map ae):=⟨dx,D,hx4,tt⟩
   rw [xf];refine⟨room,first,axs.map ae,vo,vok.ax.kept,λ H5 e5=>?_⟩
   have hlo:¬ first+bI (axs.map ae) < 0:=by have:=vok.lo;omega
   have hx5:=e5.at hx4;ac_rfl;rw [nD];refine⟨room,first,axs.map ae,vo.ext e5,vok.ax.kept,λ H6 e6=>?_⟩
   have hhi:¬ room<=first+bJ (axs.map ae):=by have:=vok.hi;omega
   have k':=k H6 D (λ H0 q0 q1=>((b4 H0 q0 q1).trans e5).trans e6) (b3 D hDx hD) (e6.at hx5) ((tt.ext e5).ext e6);clear k;ac_rfl
def Az  : Sp:=λ vs H Q E=>∃ (a:Int) (b:Int),vs=[.int a,.int b]/\(Q (.int (Int.gcd a b:Int)) H)
theorem Dd  (a:Int) (b:Int) (H:Hp) (Q:VK) (E:XK):Az  [.int a,.int b] H Q E=(Q (.int (Int.gcd a b:Int)) H):=qL (f:=λ (a:Int) (b:Int)=>[.int a,.int b]) (λ _ _ _ _ h=>by cases h;exact⟨rfl,rfl⟩) a b
theorem CI  {vs:List V}{H:Hp}{Q:VK}{E:XK}(h:Az  vs H Q E):vs.length=2:=qM h λ _ _=>rfl
theorem rk(T:Tx K mg t):bq P w K mg base CX0 1 t.a_divisor t.d_divisor ["one", "other"] Az:=by
 refine T.F_divisor.ok dq (λ vs H Q E h=>CI h) (λ c A o s H vs Q E hr h=>?_)
 ·obtain⟨a,b,rfl,k⟩:=h;refine⟨_,%[%[2,dq,%[abs,bT,%[%[0|0]|1]|6]|4],%[%[3,dq,%[abs,bT,%[%[1|0]|1]|6]|4],%[(@kU _ _ _ _ _ _ KP %[(cy hr.units),%[3|0],%[0|2],(af _)|14] %[%[4,dq,%[bt,%[2|0],%[3|0]|10]|4],%[%[2,dq,%[3|0]|4],%[%[3,dq,%[4|0]|4]|12]|9]|9]),%[%[%[2|0]|13]|12]|9]|9]|9],?_⟩;rw [show start ["one", "other", "found", "rest", "smaller"] [.int a,.int b]=[some (.int a),some (.int b),none,none,none] from rfl];ac_rfl;refine nS (by repeat' first|exact AK|exact uv|exact mo_nI|apply k6|apply mo_unN|exact pN|exact Hb|exact pO|exact mo_rI|exact mo_rIsN|exact mo_rNotN|exact ur|exact mo_qIx|exact uu|exact oC|apply kj|apply mo_tB|apply mo_not|apply mo_and|apply mo_or|apply AL|apply mo_un|apply oE|apply mo_qLst|apply AM) (λ m σ H'=>∃ (f r:Int) (sm:Option V),σ=[some (.int a),some (.int b),some (.int f),some (.int r),sm]/\H'=H/\m=r.toNat/\0<=f/\0<=r/\Int.gcd f r=Int.gcd a b) _ ⟨_,_,_,rfl,rfl,rfl,An a,An b,CM a b⟩ ?_;rintro m _ _ ⟨f,r,sm,rfl,rfl,rfl,hf,hr',hg⟩;rename_i H
  by_cases hz:r=0
  ·subst hz;have e:f=(Int.gcd a b:Int):=by rw [←hg];exact(qi f hf).symm
   rw [←e] at k;clear e hg;ac_rfl
  ·have hp:0 < r:=by omega
   have e1:=qj f r hp hf;have e2:=LC f hp;have e3:=Lg f hz;have fin:∃ m',m' < r.toNat/\∃ (f' r':Int) (sm':Option V),([some (V.int a),some (V.int b),some (V.int r),some (V.int (f % r)),some (V.int (f % r))]:St)=[some (V.int a),some (V.int b),some (V.int f'),some (V.int r'),sm']/\m'=r'.toNat/\0<=f'/\0<=r'/\Int.gcd f' r'=Int.gcd a b:=⟨_,by omega,r,f % r,_,rfl,rfl,hr',e3,e1.trans hg⟩;clear k e1 hg;ac_rfl
abbrev qG  (p:Addr) (H:Hp) (Q:VK) (E:XK):Prop:=∃ ns:List Int,H p=some (.lst (ns.map V.int))/\Q (.int (jg ns)) H
def ub  : Sp:=λ vs H Q E=>∃ (p:Addr),vs=[.ref p]/\(qG  p H Q E)
theorem zM  (p:Addr) (H:Hp) (Q:VK) (E:XK):ub  [.ref p] H Q E=(qG  p H Q E):=sT (f:=λ (p:Addr)=>[.ref p]) (λ _ _ h=>by cases h;exact rfl) p
theorem yP  {vs:List V}{H:Hp}{Q:VK}{E:XK}(h:ub  vs H Q E):vs.length=1:=qN h λ _=>rfl
theorem lD(T:Tx K mg t):bq P w K mg base CX0 2 t.a_divisor_of t.d_divisor_of ["numbers"] ub:=by
 have G_divisor:=%[rk|47];refine T.F_divisor_of.ok cU (λ vs H Q E h=>yP h) (λ c A o s H vs Q E hr h=>?_)
 ·obtain⟨p,rfl,ns,hp,k⟩:=h;refine⟨_,%[%[1,cU,%[0|2]|4],%[%[KP,rfl,%[%[0|0]|20],%[2,cU|5],%[%[1,cU,%[divisor,%[%[1|0],%[%[2|0]|1]|1]|3]|4]|12],(by intros;rfl)|29],%[%[%[1|0]|13]|12]|9]|9],?_⟩;rw [show start ["numbers", "found", "number"] [.ref p]=[some (.ref p),none,none] from rfl];clear G_divisor;ac_rfl;refine cz (xs:=ns.map V.int) (λ i σ H'=>∃ v:Option V,σ=[some (.ref p),some (.int (jg (ns.take i))),v]/\H'=H) ⟨none,rfl,rfl⟩ (λ i σ H' _ ⟨_,_,e⟩=>by rw [e];exact hp) ?_ ?_
  ·rintro i y _ _ hi ⟨v,rfl,rfl⟩;rename_i H;rw [KH] at hi;obtain⟨z,hz,rfl⟩:=KA.mp hi;have e1:=mF ns i z hz;clear hz hi k;simp! only [↓aG];rw [Dd];ac_rfl;exact⟨_,rfl⟩
  ·rintro _ _ ⟨v,rfl,rfl⟩;rename_i H;have e2:jg (ns.take (ns.map V.int).length)=jg ns:=by rw [Kr,Lx]
   rw [e2];ac_rfl
theorem zX{zs:List Tm3}(h:cX zs){z:Tm3}(hz:z∈zs)(b:Int):fU z.1 b:=.inl (by have:=(h.all z hz).1;omega)
abbrev qz  (p:Addr) (q:Addr) (H:Hp) (Q:VK) (E:XK):Prop:=∃ (zs:List Tm3) (cs:List (Int × Int)),gL H p zs/\cx H q cs/\cX zs/\dR zs cs/\∀ H',Ext H H'->Q (.int (dW zs cs)) H'
def tU  : Sp:=λ vs H Q E=>∃ (p:Addr) (q:Addr),vs=[.ref p,.ref q]/\(qz  p q H Q E)
theorem eI  (p:Addr) (q:Addr) (H:Hp) (Q:VK) (E:XK):tU  [.ref p,.ref q] H Q E=(qz  p q H Q E):=qL (f:=λ (p:Addr) (q:Addr)=>[.ref p,.ref q]) (λ _ _ _ _ h=>by cases h;exact⟨rfl,rfl⟩) p q
theorem yI  {vs:List V}{H:Hp}{Q:VK}{E:XK}(h:tU  vs H Q E):vs.length=2:=qM h λ _ _=>rfl
theorem cS(T:Tx K mg t):bq P w K mg base CX0 1 t.a_least_sum t.d_least_sum ["terms", "case"] tU:=by
 refine T.F_least_sum.ok pq (λ vs H Q E h=>yI h) (λ c A o s H vs Q E hr h=>?_)
 ·obtain⟨p,q,rfl,zs,cs,⟨ys,hp,al⟩,⟨xs,hq,bl⟩,ht,hc,k⟩:=h;refine⟨_,%[%[%[sum,(bz rfl),%[%[(["term", "bounds", "terms", "case"]),(2),(aD (aa dB) ["terms", "case"] rfl rfl nofun),rfl,%[∅,T.z_zip,%[%[0|0],%[%[1|0]|1]|1],∅,∅|39],(λ C s₀ H₀ ex pn=>(%[(2),rfl,%[%[(0),_,(show List.Nodup (["term", "bounds", "terms", "case"]:List Str) from by decide +kernel),rfl,(Or.inl rfl),%[0|7]|17],%[%[(1),_,(show List.Nodup (["term", "bounds", "terms", "case"]:List Str) from by decide +kernel),rfl,(Or.inl rfl),%[0|7]|17],(@aA _),∅|15],∅|15],∅,∅|22].mono λ _ _ _ _ h=>aU h)),(λ C s₀ H₀ ex pn=>(@aH _)),(λ C s₀ H₀ ex pn=>%[bh,%[aB,%[0|0],%[0|2],(λ _ _=>rfl)|11],%[aB,%[1|0],%[0|2],(λ _ _=>rfl)|11]|10]),(by intros;rfl)|21]|1]|6]|13]|12],?_⟩;rw [show start ["terms", "case"] [.ref p,.ref q]=[some (.ref p),some (.ref q)] from rfl];ac_rfl;have wk:=j8 (R1:=trP) (R2:=axP) (λ _ _ _ _ h e=>h.ext e) (λ _ _ _ _ h e=>h.ext e) hp hq al bl;refine aP (zs.zip cs) (λ _=>true) (λ z=>.int (z.1.1 * z.2.1)) (Ap trP axP) wk.1 wk.2 (au (by have:=ht.len;rw [Lq];omega)) ?_ ?_
  ·intro D z y H' N1 N0 hz hD e ⟨u,q1,q2,hu,hu2,⟨r1,h1,h1'⟩,⟨r2,h2,h2'⟩⟩ k1 _;subst hu h1 h2;have k1':N1 (.int (z.1.1 * z.2.1)) H':=k1 rfl H' (Ext.refl _);have hcm:=zX ht (Mn hz).1 z.2.1;clear k1 k;simp! only [↓bP,↓aI]
  ·intro D H' hD e hD';rw [fT,show ((zs.zip cs).map λ z=>V.int (z.1.1 * z.2.1))=((zs.zip cs).map λ z=>z.1.1 * z.2.1).map V.int by rw [Lh];rfl] at hD';have k2:Q (.int ((zs.zip cs).map λ z=>z.1.1 * z.2.1).sum) H':=k H' e;clear k wk;ac_rfl
abbrev qF  (p:Addr) (q:Addr) (H:Hp) (Q:VK) (E:XK):Prop:=∃ (zs:List Tm3) (cs:List (Int × Int)),gL H p zs/\cx H q cs/\cX zs/\dR zs cs/\∀ H',Ext H H'->Q (.int (gy zs cs)) H'
def ua  : Sp:=λ vs H Q E=>∃ (p:Addr) (q:Addr),vs=[.ref p,.ref q]/\(qF  p q H Q E)
theorem gY  (p:Addr) (q:Addr) (H:Hp) (Q:VK) (E:XK):ua  [.ref p,.ref q] H Q E=(qF  p q H Q E):=qL (f:=λ (p:Addr) (q:Addr)=>[.ref p,.ref q]) (λ _ _ _ _ h=>by cases h;exact⟨rfl,rfl⟩) p q
theorem yO  {vs:List V}{H:Hp}{Q:VK}{E:XK}(h:ua  vs H Q E):vs.length=2:=qM h λ _ _=>rfl
theorem bZ(T:Tx K mg t):bq P w K mg base CX0 1 t.a_greatest_sum t.d_greatest_sum ["terms", "case"] ua:=by
 refine T.F_greatest_sum.ok jr (λ vs H Q E h=>yO h) (λ c A o s H vs Q E hr h=>?_)
 ·obtain⟨p,q,rfl,zs,cs,⟨ys,hp,al⟩,⟨xs,hq,bl⟩,ht,hc,k⟩:=h;refine⟨_,%[%[%[sum,(bz rfl),%[%[(["term", "bounds", "terms", "case"]),(2),(aD (aa b8) ["terms", "case"] rfl rfl nofun),rfl,%[∅,T.z_zip,%[%[0|0],%[%[1|0]|1]|1],∅,∅|39],(λ C s₀ H₀ ex pn=>(%[(2),rfl,%[%[(0),_,(show List.Nodup (["term", "bounds", "terms", "case"]:List Str) from by decide +kernel),rfl,(Or.inl rfl),%[0|7]|17],%[%[(1),_,(show List.Nodup (["term", "bounds", "terms", "case"]:List Str) from by decide +kernel),rfl,(Or.inl rfl),%[0|7]|17],(@aA _),∅|15],∅|15],∅,∅|22].mono λ _ _ _ _ h=>aU h)),(λ C s₀ H₀ ex pn=>(@aH _)),(λ C s₀ H₀ ex pn=>%[bh,%[aB,%[0|0],%[0|2],(λ _ _=>rfl)|11],%[aB,%[1|0],%[0|2],(λ _ _=>rfl)|11]|10]),(by intros;rfl)|21]|1]|6]|13]|12],?_⟩;rw [show start ["terms", "case"] [.ref p,.ref q]=[some (.ref p),some (.ref q)] from rfl];ac_rfl;have wk:=j8 (R1:=trP) (R2:=axP) (λ _ _ _ _ h e=>h.ext e) (λ _ _ _ _ h e=>h.ext e) hp hq al bl;refine aP (zs.zip cs) (λ _=>true) (λ z=>.int (z.1.1 * z.2.2)) (Ap trP axP) wk.1 wk.2 (au (by have:=ht.len;rw [Lq];omega)) ?_ ?_
  ·intro D z y H' N1 N0 hz hD e ⟨u,q1,q2,hu,hu2,⟨r1,h1,h1'⟩,⟨r2,h2,h2'⟩⟩ k1 _;subst hu h1 h2;have k1':N1 (.int (z.1.1 * z.2.2)) H':=k1 rfl H' (Ext.refl _);have hcm:=zX ht (Mn hz).1 z.2.2;clear k1 k;simp! only [↓bP,↓aI]
  ·intro D H' hD e hD';rw [fT,show ((zs.zip cs).map λ z=>V.int (z.1.1 * z.2.2))=((zs.zip cs).map λ z=>z.1.1 * z.2.2).map V.int by rw [Lh];rfl] at hD';have k2:Q (.int ((zs.zip cs).map λ z=>z.1.1 * z.2.2).sum) H':=k H' e;clear k wk;ac_rfl
abbrev qx  (p:Addr) (q:Addr) (H:Hp) (Q:VK) (E:XK):Prop:=∃ (zs:List Tm3) (cs:List (Int × Int)),gL H p zs/\cx H q cs/\cX zs/\dR zs cs/\∀ H',Ext H H'->Q (.int (jg (b9 zs cs))) H'
def tS  : Sp:=λ vs H Q E=>∃ (p:Addr) (q:Addr),vs=[.ref p,.ref q]/\(qx  p q H Q E)
theorem zF  (p:Addr) (q:Addr) (H:Hp) (Q:VK) (E:XK):tS  [.ref p,.ref q] H Q E=(qx  p q H Q E):=qL (f:=λ (p:Addr) (q:Addr)=>[.ref p,.ref q]) (λ _ _ _ _ h=>by cases h;exact⟨rfl,rfl⟩) p q
theorem yG  {vs:List V}{H:Hp}{Q:VK}{E:XK}(h:tS  vs H Q E):vs.length=2:=qM h λ _ _=>rfl
theorem qZ(T:Tx K mg t):bq P w K mg base CX0 3 t.a_rest_of t.d_rest_of ["terms", "case"] tS:=by
 have G_divisor_of:=%[lD|47];refine T.F_rest_of.ok xm (λ vs H Q E h=>yG h) (λ c A o s H vs Q E hr h=>?_)
 ·obtain⟨p,q,rfl,zs,cs,⟨ys,hp,al⟩,⟨xs,hq,bl⟩,ht,hc,k⟩:=h;refine⟨_,%[%[%[divisor_of,%[%[(["term", "bounds", "terms", "case"]),(2),(aD (aa fG) ["terms", "case"] rfl rfl nofun),rfl,%[∅,T.z_zip,%[%[0|0],%[%[1|0]|1]|1],∅,∅|39],(λ C s₀ H₀ ex pn=>(%[(2),rfl,%[%[(0),_,(show List.Nodup (["term", "bounds", "terms", "case"]:List Str) from by decide +kernel),rfl,(Or.inl rfl),%[0|7]|17],%[%[(1),_,(show List.Nodup (["term", "bounds", "terms", "case"]:List Str) from by decide +kernel),rfl,(Or.inl rfl),%[0|7]|17],(@aA _),∅|15],∅|15],∅,∅|22].mono λ _ _ _ _ h=>aU h)),(λ C s₀ H₀ ex pn=>(@kf _ _ _ %[cI,%[aB,%[1|0],%[0|2],(λ _ _=>rfl)|11],%[aB,%[1|0],%[0|2],(λ _ _=>rfl)|11],(af _)|14])),(λ C s₀ H₀ ex pn=>%[aB,%[0|0],%[0|2],(λ _ _=>rfl)|11]),(by intros;rfl)|21]|1]|3]|13]|12],?_⟩;rw [show start ["terms", "case"] [.ref p,.ref q]=[some (.ref p),some (.ref q)] from rfl];clear G_divisor_of;ac_rfl;have wk:=j8 (R1:=trP) (R2:=axP) (λ _ _ _ _ h e=>h.ext e) (λ _ _ _ _ h e=>h.ext e) hp hq al bl;refine aP (zs.zip cs) (λ z=>decide (z.2.1 < z.2.2)) (λ z=>.int z.1.1) (Ap trP axP) wk.1 wk.2 (au (by have:=ht.len;rw [Lq];omega)) ?_ ?_
  ·intro D z y H' N1 N0 hz hD e ⟨u,q1,q2,hu,hu2,⟨r1,h1,h1'⟩,⟨r2,h2,h2'⟩⟩ k1 k0;subst hu h1 h2
   by_cases hlt:z.2.1 < z.2.2
   ·have k1':N1 (.int z.1.1) H':=k1 (KN hlt) H' (Ext.refl _);clear k1 k0 k;simp! only [↓bP,↓aI]
   ·have k0':N0 H':=k0 (KD hlt) H' (Ext.refl _);clear k1 k0 k;simp! only [↓bP,↓aI]
  ·intro D H' hD e hD';rw [show (((zs.zip cs).filter λ z=>decide (z.2.1 < z.2.2)).map λ z=>V.int z.1.1)=(b9 zs cs).map V.int by unfold b9;rw [map_map];rfl] at hD';have k2:=k H' e;clear k wk;ac_rfl;rw [zM];exact⟨_,hD',k2⟩
def xu(H:Hp)(s:List V)(v:V):Prop:=∃ r,v=.ref r/\H r=some (.tup s)
theorem xu.ext{H H':Hp}{s:List V}{v:V}(h:xu H s v)(e:Ext H H'):xu H' s v:=by
 obtain⟨r,h1,h2⟩:=h;exact⟨r,h1,e.at h2⟩
def Dm(g l gr r:Int):Option (List V):=if g < l then some [.str "low"] else if gr < g then some [.str "high"] else if 1 < r/\(g - l) % r ≠ 0 then some [.str "rest",.int r] else none
def sV(zs:List Tm3)(cs:List (Int × Int))(g:Int):Option (List V):=Dm g (dW zs cs) (gy zs cs) (jg (b9 zs cs))
def JJ(H:Hp):Option (List V)->V->Prop
 | none,v=>v=.non
 | some s,v=>xu H s v
theorem sy{g l gr r:Int}:(Dm g l gr r).isSome=cK g l gr r:=by
 unfold Dm cK
 by_cases h1:g < l
 ·rw [Kx h1,KN h1];rfl
 rw [Ks h1,KD h1]
 by_cases h2:gr < g
 ·rw [Kx h2,KN h2];rfl
 rw [Ks h2,KD h2]
 by_cases h3:1 < r
 ·have:=Lg (g - l) (show r ≠ 0 by omega)
  by_cases h4:(g - l) % r=0
  ·rw [Ks (λ h=>h.2 h4),h4,KD (Int.lt_irrefl 0),MS];rfl
  ·rw [Kx ⟨h3,h4⟩,KN h3,KN (show 0 < (g - l) % r by omega)];rfl
 ·rw [Ks (λ h=>h3 h.1),KD h3];rfl
theorem zq{zs:List Tm3}{cs:List (Int × Int)}{g:Int}{o:Option (List V)}(h:sV zs cs g=o):jl zs cs g=o.isSome:=by
 rw [←h];exact sy.symm
abbrev m9  (p:Addr) (g:Int) (q:Addr) (H:Hp) (Q:VK) (E:XK):Prop:=∃ (zs:List Tm3) (cs:List (Int × Int)),gL H p zs/\cx H q cs/\cX zs/\dR zs cs/\∀ v H',Ext H H'->JJ H' (sV zs cs g) v->Q v H'
def ou  : Sp:=λ vs H Q E=>∃ (p:Addr) (g:Int) (q:Addr),vs=[.ref p,.int g,.ref q]/\(m9  p g q H Q E)
theorem xk  (p:Addr) (g:Int) (q:Addr) (H:Hp) (Q:VK) (E:XK):ou  [.ref p,.int g,.ref q] H Q E=(m9  p g q H Q E):=pD (f:=λ (p:Addr) (g:Int) (q:Addr)=>[.ref p,.int g,.ref q]) (λ _ _ _ _ _ _ h=>by cases h;exact⟨rfl,rfl,rfl⟩) p g q
theorem wJ  {vs:List V}{H:Hp}{Q:VK}{E:XK}(h:ou  vs H Q E):vs.length=3:=pE h λ _ _ _=>rfl
theorem vG(T:Tx K mg t):bq P w K mg base CX0 4 t.a_end_of t.d_end_of ["terms", "goal", "case"] ou:=by
 have G_least_sum:=%[cS|47];have G_greatest_sum:=%[bZ|47];have G_rest_of:=%[qZ|47];refine T.F_end_of.ok ly (λ vs H Q E h=>wJ h) (λ c A o s H vs Q E hr h=>?_)
 ·obtain⟨p,g,q,rfl,zs,cs,hp,hq,ht,hc,k⟩:=h;refine⟨_,%[%[3,ly,%[least_sum,%[%[0|0],%[%[2|0]|1]|1]|3]|4],%[%[%[dz,%[3|0],%[1|0],(af _)|14],%[%[%[%[(@bG _ _ _ _)|1]|18]|13]|12],(@ao _)|16],%[%[%[cI,%[greatest_sum,%[%[0|0],%[%[2|0]|1]|1]|3],%[1|0],(af _)|14],%[%[%[%[(@bG _ _ _ _)|1]|18]|13]|12],(@ao _)|16],%[%[4,ly,%[rest_of,%[%[0|0],%[%[2|0]|1]|1]|3]|4],%[%[(PW.pt %[%[dz,%[4|0],%[0|2],(af _)|14],%[%[(cy hr.units),%[bt,%[aF,%[1|0],%[3|0]|10],%[4|0]|10],%[0|2],(af _)|14]|37]|34]),%[%[%[%[(@bG _ _ _ _),%[%[4|0]|1]|1]|18]|13]|12],(@ao _)|16],%[%[(@dN _ _ _)|13]|12]|9]|9]|9]|9]|9],?_⟩;rw [show start ["terms", "goal", "case", "least", "rest"] [.ref p,.int g,.ref q]=[some (.ref p),some (.int g),some (.ref q),none,none] from rfl];clear G_least_sum G_greatest_sum G_rest_of;unfold sV at k;have en:∀ o,Dm g (dW zs cs) (gy zs cs) (jg (b9 zs cs))=o->∀ v H',Ext H H'->JJ H' o v->Q v H':=λ o ho v H' e h=>k v H' e (by rw [ho];exact h);unfold Dm at en;exists en;clear k;ac_rfl;rw [eI];refine⟨zs,cs,hp,hq,ht,hc,λ H1 e1=>?_⟩
  by_cases h1:g < dW zs cs
  ·have k:=en () _ (Kx h1);exists k;clear en;ac_rfl;intro r H2 hr2 e2 h2;exact k () _ H2 (e1.trans e2) ⟨r,rfl,h2⟩
  ac_rfl;rw [gY];refine⟨zs,cs,bO hp e1,ay hq e1,ht,hc,λ H2 e2=>?_⟩
  by_cases h2:gy zs cs < g
  ·have k:=en () _ (by rw [Ks h1,Kx h2]);exists k;clear en;ac_rfl;intro r H3 hr3 e3 h3;exact k () _ H3 (e1.trans (e2.trans e3)) ⟨r,rfl,h3⟩
  ac_rfl;rw [zF];refine⟨zs,cs,bO hp (e1.trans e2),ay hq (e1.trans e2),ht,hc,λ H3 e3=>?_⟩;have hgn:=oJ (b9 zs cs);generalize jg (b9 zs cs)=r at en hgn
  by_cases h3:1 < r
  ·have hr0:0 < r:=by omega
   by_cases h4:(g - dW zs cs) % r=0
   ·have k2:=en () none (by rw [Ks h1,Ks h2,Ks (λ h=>h.2 h4)]) .non H3 (e1.trans (e2.trans e3)) rfl;clear en;ac_rfl
   ·have k:=en () _ (by rw [Ks h1,Ks h2,Kx ⟨h3,h4⟩]);exists k;clear en;ac_rfl;intro r' H4 hr4 e4 h4';exact k () _ H4 (e1.trans (e2.trans (e3.trans e4))) ⟨r',rfl,h4'⟩
  ·have k2:=en () none (by rw [Ks h1,Ks h2,Ks (λ h=>h3 h.1)]) .non H3 (e1.trans (e2.trans e3)) rfl;clear en;ac_rfl
abbrev Bx:=List (Int × Int)
def InB:Bx->List Int->Prop
 | [],[]=>True
 | b::cs,x::xs=>(b.1<=x/\x<=b.2)/\InB cs xs
 | _,_=>False
def jc:List Tm3->List Int->Int
 | z::zs,x::xs=>z.1 * x+jc zs xs
 | _,_=>0
def dQ:Bx->Int
 | []=>1
 | b::cs=>(b.2 - b.1+1) * dQ cs
def HE(cs:Bx):Prop:=∀ b∈cs,b.1<=b.2
theorem j9:∀ {cs:Bx},HE cs->1<=dQ cs
 | [],_=>K3 _
 | b::cs,h=>by
  have ih:=j9 (cs:=cs) λ c hc=>h c (Ko _ hc);have hb:=h b Kp
  show 1<=(b.2 - b.1+1) * dQ cs
  have:=LP (show (1:Int)<=b.2 - b.1+1 by omega) ih ⋯ %[0|8];omega
theorem fF(z:Tm3)(b:Int × Int)(zs:List Tm3)(cs:Bx):dW (z::zs) (b::cs)=z.1 * b.1+dW zs cs/\gy (z::zs) (b::cs)=z.1 * b.2+gy zs cs:=by
 unfold dW gy;rw [List.zip_cons_cons,map_cons,map_cons,sum_cons,sum_cons];exact⟨rfl,rfl⟩
theorem iM:∀ {zs:List Tm3}{cs:Bx}{xs:List Int},(∀ z∈zs,(0:Int)<=z.1)->cs.length=zs.length->InB cs xs->dW zs cs<=jc zs xs/\jc zs xs<=gy zs cs
 | [],[],[],_,_,_=>⟨K3 _,K3 _⟩
 | [],_::_,_,_,h,_=>by simp at h
 | _::_,[],_,_,h,_=>by simp at h
 | _,[],_::_,_,_,h=>h.elim
 | _,_::_,[],_,_,h=>h.elim
 | z::zs,b::cs,x::xs,hz,hl,hx=>by
  have ih:=iM (zs:=zs) (cs:=cs) (xs:=xs) (λ y hy=>hz y (Ko _ hy)) (by simpa using hl) hx.2;have h0:=hz z Kp;have m1:=KI hx.1.1 h0;have m2:=KI hx.1.2 h0;obtain⟨s1,s2⟩:=fF z b zs cs;rw [s1,s2]
  show z.1 * b.1+dW zs cs<=z.1 * x+jc zs xs/\z.1 * x+jc zs xs<=z.1 * b.2+gy zs cs
  omega
theorem qk:∀ (ns:List Int) (a:Int),(ns.foldl (λ f n=>(Int.gcd f n:Int)) a ∣ a)/\∀ n∈ns,ns.foldl (λ f n=>(Int.gcd f n:Int)) a ∣ n
 | [],a=>⟨Int.dvd_refl _,λ _ h=>by cases h⟩
 | n::ns,a=>by
  obtain⟨h1,h2⟩:=qk ns (Int.gcd a n:Int);refine⟨Int.dvd_trans h1 (Int.gcd_dvd_left ..),λ m hm=>?_⟩
  rcases KS.mp hm with rfl|hm
  ·exact Int.dvd_trans h1 (Int.gcd_dvd_right ..)
  ·exact h2 m hm
theorem p7(d:Int):∀ {zs:List Tm3}{cs:Bx}{xs:List Int},cs.length=zs.length->InB cs xs->(∀ n∈b9 zs cs,d ∣ n)->d ∣ jc zs xs - dW zs cs
 | [],[],[],_,_,_=>⟨0,by rw [Ly];rfl⟩
 | [],_::_,_,h,_,_=>by simp at h
 | _::_,[],_,h,_,_=>by simp at h
 | _,[],_::_,_,h,_=>h.elim
 | _,_::_,[],_,h,_=>h.elim
 | z::zs,b::cs,x::xs,hl,hx,hd=>by
  have hd':∀ n∈b9 zs cs,d ∣ n:=λ n hn=>hd n (by
   unfold b9 at hn ⊢;rw [List.zip_cons_cons];obtain⟨p,hp,e⟩:=List.mem_map.mp hn;obtain⟨q1,q2⟩:=List.mem_filter.mp hp;exact List.mem_map.mpr ⟨p,List.mem_filter.mpr ⟨mem_cons_of_mem _ q1,q2⟩,e⟩)
  have ih:=p7 d (zs:=zs) (cs:=cs) (xs:=xs) (by simpa using hl) hx.2 hd';rw [(fF z b zs cs).1]
  show d ∣ z.1 * x+jc zs xs - (z.1 * b.1+dW zs cs)
  have e:z.1 * x+jc zs xs - (z.1 * b.1+dW zs cs)=z.1 * (x - b.1)+(jc zs xs - dW zs cs):=by rw [Int.mul_sub];omega
  rw [e];refine Int.dvd_add ?_ ih
  by_cases hb:b.1 < b.2
  ·have:d ∣ z.1:=hd z.1 (by
    unfold b9;rw [List.zip_cons_cons];exact List.mem_map.mpr ⟨(z,b),List.mem_filter.mpr ⟨mem_cons_self,decide_eq_true hb⟩,rfl⟩)
   exact Int.dvd_trans this (Int.dvd_mul_right ..)
  ·have:x - b.1=0:=by have:=hx.1;omega
   rw [this,Ly];exact⟨0,by rw [Ly]⟩
theorem InB.len:∀ {cs:Bx}{xs:List Int},InB cs xs->xs.length=cs.length
 | [],[],_=>rfl
 | [],_::_,h=>h.elim
 | _::_,[],h=>h.elim
 | _::_,_::_,h=>Lv (· + 1) (InB.len h.2)
def upC(cs:Bx)(k:Nat)(at':Int):Bx:=cs.set k (at'+1,(cs.getD k default).2)
def loC(cs:Bx)(k:Nat)(at':Int):Bx:=cs.set k ((cs.getD k default).1,at')
theorem kY:∀ {cs:Bx}{k:Nat}{a:Int},k < cs.length->dQ (upC cs k a)+dQ (loC cs k a)=dQ cs
 | [],_,_,h=>by simp at h
 | b::cs,0,a,_=>by
  show (b.2 - (a+1)+1) * dQ cs+(a - b.1+1) * dQ cs=(b.2 - b.1+1) * dQ cs
  rw [←Int.add_mul];congr 1;omega
 | b::cs,k+1,a,h=>by
  have ih:=kY (cs:=cs) (k:=k) (a:=a) (by simpa using h)
  show (b.2 - b.1+1) * dQ (upC cs k a)+(b.2 - b.1+1) * dQ (loC cs k a)=(b.2 - b.1+1) * dQ cs
  rw [←Nl,ih]
theorem uO:∀ {cs:Bx}{xs:List Int}{k:Nat}{a:Int},k < cs.length->InB cs xs->InB (upC cs k a) xs\/InB (loC cs k a) xs
 | [],_,_,_,h,_=>by simp at h
 | _::_,[],_,_,_,h=>h.elim
 | b::cs,x::xs,0,a,_,hx=>by
  by_cases h:x<=a
  ·exact .inr ⟨⟨hx.1.1,h⟩,hx.2⟩
  ·exact .inl ⟨⟨by show a+1<=x;omega,hx.1.2⟩,hx.2⟩
 | b::cs,x::xs,k+1,a,hk,hx=>by
  rcases uO (cs:=cs) (k:=k) (a:=a) (by simpa using hk) hx.2 with h|h
  ·exact .inl ⟨hx.1,h⟩
  ·exact .inr ⟨hx.1,h⟩
theorem uU:∀ {cs ds:Bx}{xs:List Int},InB cs xs->ds.length=cs.length->(∀ i:Nat,i < cs.length->(ds.getD i default).1<=(cs.getD i default).1/\(cs.getD i default).2<=(ds.getD i default).2)->InB ds xs
 | [],[],[],_,_,_=>trivial
 | [],_::_,_,_,h,_=>by simp at h
 | _::_,[],_,_,h,_=>by simp at h
 | [],_,_::_,h,_,_=>h.elim
 | _::_,_,[],h,_,_=>h.elim
 | b::cs,d::ds,x::xs,hx,hl,h=>by
  have h0:=h 0 (by simp);have h0':d.1<=b.1/\b.2<=d.2:=h0;refine⟨by have:=hx.1;omega,uU hx.2 (by simpa using hl) λ i hi=>?_⟩;exact h (i+1) (by simpa using hi)
theorem dR.at{zs:List Tm3}{cs:Bx}(h:dR zs cs){i:Nat}(hi:i < zs.length):(zs.getD i default).2.1<=(cs.getD i default).1/\(cs.getD i default).1<=(cs.getD i default).2/\(cs.getD i default).2<=(zs.getD i default).2.2:=by
 have hc:i < cs.length:=by rw [h.len];exact hi
 have hm:(zs[i],cs[i])∈zs.zip cs:=by
  have:(zs.zip cs)[i]? = some (zs[i],cs[i]):=by rw [Ld];exact⟨Kk hi,Kk hc⟩
  exact LM this
 have:=h.all _ hm;rw [Ky,Ky,Kk hi,Kk hc];exact this
theorem dR.of{zs:List Tm3}{cs:Bx}(hl:cs.length=zs.length)(h:∀ i:Nat,i < zs.length->(zs.getD i default).2.1<=(cs.getD i default).1/\(cs.getD i default).1<=(cs.getD i default).2/\(cs.getD i default).2<=(zs.getD i default).2.2):dR zs cs:=by
 refine⟨hl,λ p hp=>?_⟩;obtain⟨i,hi⟩:=L9.mp hp;obtain⟨h1,h2⟩:=Ld.mp hi;have hz:=(Km.mp h1).1;have:=h i hz;rw [Ky,Ky,h1,h2] at this;exact this
theorem dR.bx{zs:List Tm3}{cs:Bx}(h:dR zs cs):HE cs:=λ b hb=>by
 obtain⟨i,hi⟩:=L9.mp hb;have hl:=(Km.mp hi).1;have:=(h.at (i:=i) (by rw [←h.len];exact hl)).2.1;rw [Ky,hi] at this;exact this
theorem mE{cs:Bx}{k i:Nat}{b:Int × Int}(hk:k < cs.length):(cs.set k b).getD i default=if i=k then b else cs.getD i default:=by
 rw [Ky,Ky,List.getElem?_set]
 by_cases h:i=k
 ·subst h;rw [Kx rfl,Kx hk,Kx rfl];rfl
 ·rw [Ks (λ e=>h e.symm),Ks h]
theorem dR.part{zs:List Tm3}{cs:Bx}{k:Nat}{a:Int}(h:dR zs cs)(hk:k < zs.length)(h1:(cs.getD k default).1<=a)(h2:a < (cs.getD k default).2):dR zs (upC cs k a)/\dR zs (loC cs k a):=by
 have hc:k < cs.length:=by rw [h.len];exact hk
 have hk':=h.at hk;refine⟨dR.of (by unfold upC;rw [length_set];exact h.len) λ i hi=>?_,dR.of (by unfold loC;rw [length_set];exact h.len) λ i hi=>?_⟩
 ·unfold upC;rw [mE hc]
  by_cases e:i=k
  ·subst e;rw [Kx rfl];show _<=a+1/\a+1<=(cs.getD i default).2/\_;omega
  ·rw [Ks e];exact h.at hi
 ·unfold loC;rw [mE hc]
  by_cases e:i=k
  ·subst e;rw [Kx rfl];show _<=(cs.getD i default).1/\(cs.getD i default).1<=a/\a<=_;omega
  ·rw [Ks e];exact h.at hi
theorem pW:∀ {zs:List Tm3}{cs:Bx},cs.length=zs.length->jc zs (cs.map λ b=>b.1)=dW zs cs/\jc zs (cs.map λ b=>b.2)=gy zs cs
 | [],[],_=>⟨rfl,rfl⟩
 | [],_::_,h=>by simp at h
 | _::_,[],h=>by simp at h
 | z::zs,b::cs,h=>by
  obtain⟨i1,i2⟩:=pW (zs:=zs) (cs:=cs) (by simpa using h);obtain⟨s1,s2⟩:=fF z b zs cs;rw [s1,s2,←i1,←i2];exact⟨rfl,rfl⟩
theorem uW:∀ {cs:Bx},HE cs->InB cs (cs.map λ b=>b.1)/\InB cs (cs.map λ b=>b.2)
 | [],_=>⟨trivial,trivial⟩
 | b::cs,h=>by
  have ih:=uW (cs:=cs) λ c hc=>h c (Ko _ hc);have hb:=h b Kp;exact⟨⟨⟨K3 _,hb⟩,ih.1⟩,⟨hb,K3 _⟩,ih.2⟩
def qO(zs:List Tm3)(g:Int)(cs:Bx):Option (List Int):=if dW zs cs=g then some (cs.map λ b=>b.1) else if gy zs cs=g then some (cs.map λ b=>b.2) else none
theorem EK{zs:List Tm3}{g:Int}{cs:Bx}{xs:List Int}(h:dR zs cs)(hx:qO zs g cs=some xs):InB cs xs/\jc zs xs=g:=by
 obtain⟨v1,v2⟩:=pW h.len;obtain⟨i1,i2⟩:=uW h.bx;unfold qO at hx;split at hx
 ·rename_i e;cases hx;exact⟨i1,v1.trans e⟩
 ·split at hx
  ·rename_i e;cases hx;exact⟨i2,v2.trans e⟩
  ·cases hx
def nL(t:Int)(b:Int × Int)(al bg:Int):Int × Int:=(if b.1 < b.2 - bg / t then b.2 - bg / t else b.1,if b.1+al / t < b.2 then b.1+al / t else b.2)
def dU(zs:List Tm3)(cs:Bx)(al bg:Int):Nat->Option (Nat × Int × Int)
 | 0=>none
 | i+1=>if (cs.getD i default).1 < (cs.getD i default).2 then (match dU zs cs al bg i with
   | none=>some (i,nL (zs.getD i default).1 (cs.getD i default) al bg)
   | some q=>if (nL (zs.getD i default).1 (cs.getD i default) al bg).2 - (nL (zs.getD i default).1 (cs.getD i default) al bg).1 < q.2.2 - q.2.1 then some (i,nL (zs.getD i default).1 (cs.getD i default) al bg) else some q) else dU zs cs al bg i
theorem oO{zs:List Tm3}{cs:Bx}{al bg:Int}:∀ {i:Nat}{q:Nat × Int × Int},dU zs cs al bg i=some q->q.1 < i/\(cs.getD q.1 default).1 < (cs.getD q.1 default).2/\q.2=nL (zs.getD q.1 default).1 (cs.getD q.1 default) al bg
 | 0,q,h=>by cases h
 | i+1,q,h=>by
  have ih:=λ q h=>oO (zs:=zs) (cs:=cs) (al:=al) (bg:=bg) (i:=i) (q:=q) h;unfold dU at h;split at h
  ·rename_i hlt;split at h
   ·cases h;exact⟨LR _,hlt,rfl⟩
   ·rename_i q' hq;split at h
    ·cases h;exact⟨LR _,hlt,rfl⟩
    ·cases h;have:=ih _ hq;exact⟨by omega,this.2⟩
  ·have:=ih _ h;exact⟨by omega,this.2⟩
theorem mT{zs:List Tm3}{cs:Bx}{al bg:Int}:∀ {i:Nat},(∃ k,k < i/\(cs.getD k default).1 < (cs.getD k default).2)->∃ q,dU zs cs al bg i=some q
 | 0,⟨k,h,_⟩=>absurd h (Nat.not_lt_zero _)
 | i+1,⟨k,hk,hlt⟩=>by
  unfold dU
  by_cases h:(cs.getD i default).1 < (cs.getD i default).2
  ·rw [Kx h]
   cases dU zs cs al bg i with
   | none=>exact⟨_,rfl⟩
   | some q=>
    dsimp only;split
    ·exact⟨_,rfl⟩
    ·exact⟨_,rfl⟩
  ·rw [Ks h];have hki:k ≠ i:=λ e=>h (by rw [←e];exact hlt);exact mT ⟨k,by omega,hlt⟩
def bM(cs:Bx)(q:Nat × Int × Int):Int:=if q.2.2 < (cs.getD q.1 default).2 then q.2.2 else if (cs.getD q.1 default).1 < q.2.1 then q.2.1 - 1 else (cs.getD q.1 default).1
theorem Bz{zs:List Tm3}{cs:Bx}{al bg:Int}{i:Nat}{q:Nat × Int × Int}(hz:∀ j,j < i->(1:Int)<=(zs.getD j default).1)(ha:0<=al)(hb:0<=bg)(h:dU zs cs al bg i=some q):(cs.getD q.1 default).1<=bM cs q/\bM cs q < (cs.getD q.1 default).2:=by
 obtain⟨h1,h2,h3⟩:=oO h;have ht:=hz q.1 h1;have d1:=Int.ediv_nonneg ha (show 0<=(zs.getD q.1 default).1 by omega);have d2:=Int.ediv_nonneg hb (show 0<=(zs.getD q.1 default).1 by omega);have e1:q.2.1=(nL (zs.getD q.1 default).1 (cs.getD q.1 default) al bg).1:=by rw [←h3]
 have e2:q.2.2=(nL (zs.getD q.1 default).1 (cs.getD q.1 default) al bg).2:=by rw [←h3]
 unfold nL at e1 e2;have e1':q.2.1=if (cs.getD q.1 default).1 < (cs.getD q.1 default).2 - bg / (zs.getD q.1 default).1 then (cs.getD q.1 default).2 - bg / (zs.getD q.1 default).1 else (cs.getD q.1 default).1:=e1
 have e2':q.2.2=if (cs.getD q.1 default).1+al / (zs.getD q.1 default).1 < (cs.getD q.1 default).2 then (cs.getD q.1 default).1+al / (zs.getD q.1 default).1 else (cs.getD q.1 default).2:=e2
 unfold bM;rw [e1',e2']
 repeat' split
 all_goals omega
theorem uH:∀ {zs:List Tm3}{cs:Bx},cs.length=zs.length->(∀ i:Nat,i < zs.length->(cs.getD i default).1=(cs.getD i default).2)->dW zs cs=gy zs cs
 | [],[],_,_=>rfl
 | [],_::_,h,_=>by simp at h
 | _::_,[],h,_=>by simp at h
 | z::zs,b::cs,h,he=>by
  have ih:=uH (zs:=zs) (cs:=cs) (by simpa using h) λ i hi=>he (i+1) (by simpa using hi);obtain⟨s1,s2⟩:=fF z b zs cs;have h0:b.1=b.2:=he 0 (by simp);rw [s1,s2,ih,h0]
theorem mx{zs:List Tm3}{cs:Bx}{g:Int}(h:jl zs cs g=false):dW zs cs<=g/\g<=gy zs cs:=by
 unfold jl cK at h;rw [Bool.or_eq_false_iff,Bool.or_eq_false_iff] at h;have h1:=of_decide_eq_false h.1.1;have h2:=of_decide_eq_false h.1.2;omega
theorem vD{zs:List Tm3}{cs:Bx}{g:Int}(hc:dR zs cs)(h:jl zs cs g=false)(hn:qO zs g cs=none):∃ k,k < zs.length/\(cs.getD k default).1 < (cs.getD k default).2:=by
 apply Classical.byContradiction;intro hno;obtain⟨h1,h2⟩:=mx h
 have he:=uH hc.len λ i hi=>by
  have:=(hc.at hi).2.1;apply Classical.byContradiction;intro hne;exact hno ⟨i,hi,by omega⟩
 unfold qO at hn;rw [if_pos %[0|8]] at hn;cases hn
def lW(zs:List Tm3)(g:Int)(cs:Bx):Nat × Int:=match dU zs cs (g - dW zs cs) (gy zs cs - g) zs.length with
 | none=>(0,0)
 | some q=>(q.1,bM cs q)
theorem yi{zs:List Tm3}{g:Int}{cs:Bx}(hz:∀ z∈zs,(1:Int)<=z.1)(hc:dR zs cs)(h:jl zs cs g=false)(hn:qO zs g cs=none):∃ q,dU zs cs (g - dW zs cs) (gy zs cs - g) zs.length=some q/\lW zs g cs=(q.1,bM cs q)/\q.1 < zs.length/\(cs.getD q.1 default).1<=bM cs q/\bM cs q < (cs.getD q.1 default).2:=by
 obtain⟨q,hq⟩:=mT (zs:=zs) (al:=g - dW zs cs) (bg:=gy zs cs - g) (vD hc h hn);obtain⟨h1,h2⟩:=mx h;have hp:=Bz (λ j hj=>by rw [getD_eq_getElem?_getD,getElem?_eq_getElem hj];exact hz _ (getElem_mem hj)) %[0|8] %[0|8] hq;refine⟨q,hq,?_,(oO hq).1,hp⟩;unfold lW;rw [hq]
def xx(zs:List Tm3)(g:Int):Nat->List Bx->List (List V)->Option (List Int) × List (List V)
 | 0,_,p=>(none,p)
 | _+1,[],p=>(none,p)
 | n+1,c::st,p=>match sV zs c g with
  | some s=>xx zs g n st (p++[s])
  | none=>match qO zs g c with
   | some xs=>(some xs,p)
   | none=>xx zs g n (loC c (lW zs g c).1 (lW zs g c).2::upC c (lW zs g c).1 (lW zs g c).2::st) (p++[[.str "part",.int ((lW zs g c).1:Int),.int (lW zs g c).2]])
def ee(zs:List Tm3)(g:Int)(c:Bx)(s:List V)(more:List Bx):Prop:=(s=[.str "low"]/\g < dW zs c/\more=[])\/(s=[.str "high"]/\gy zs c < g/\more=[])\/(∃ d:Int,s=[.str "rest",.int d]/\2<=d/\(∀ n∈b9 zs c,d ∣ n)/\0 < (g - dW zs c) % d/\more=[])\/∃ (k:Nat) (a:Int),s=[.str "part",.int (k:Int),.int a]/\k < zs.length/\(c.getD k default).1<=a/\a < (c.getD k default).2/\jl zs c g=false/\more=[loC c k a,upC c k a]
def Rep(zs:List Tm3)(g:Int):List Bx->List (List V)->List Bx->Prop
 | st,[],st'=>st=st'
 | [],_::_,_=>False
 | c::st,s::p,st'=>∃ more,ee zs g c s more/\dR zs c/\Rep zs g (more++st) p st'
theorem Rep.snoc{zs:List Tm3}{g:Int}{c:Bx}{s:List V}{more st1:List Bx}(hs:ee zs g c s more)(hc:dR zs c):∀ {p:List (List V)}{st:List Bx},Rep zs g st p (c::st1)->Rep zs g st (p++[s]) (more++st1)
 | [],st,h=>by
  have e:st=c::st1:=by cases st<;>exact h
  subst e;exact⟨more,hs,hc,by show Rep zs g (more++st1) [] (more++st1);cases more++st1<;>rfl⟩
 | _::_,[],h=>h.elim
 | _::_,_::_,⟨m,h1,h2,h3⟩=>⟨m,h1,h2,Rep.snoc hs hc h3⟩
theorem wZ{zs:List Tm3}{g:Int}{c:Bx}{s:List V}(h:sV zs c g=some s):ee zs g c s []:=by
 unfold sV Dm at h;split at h
 ·rename_i h1;cases h;exact .inl ⟨rfl,h1,rfl⟩
 split at h
 ·rename_i h1;cases h;exact .inr (.inl ⟨rfl,h1,rfl⟩)
 split at h
 ·rename_i h1;cases h;have:=Lg (g - dW zs c) (show jg (b9 zs c) ≠ 0 by omega);exact .inr (.inr (.inl ⟨_,rfl,by omega,(qk (b9 zs c) 0).2,by omega,rfl⟩))
 ·cases h
def gZ:List Bx->Int
 | []=>0
 | c::st=>2 * dQ c - 1+gZ st
structure StI(zs:List Tm3)(g:Int)(N:Nat)(F:Bx)(most:Int)(st:List Bx)(looked:Int)(pp:List (List V)):Prop where
 ok:∀ c∈st,dR zs c
 pot:looked+gZ st<=most
 len:(pp.length:Int)=looked
 rep:Rep zs g [F] pp st
 out:∃ n:Nat,gZ st < n/\xx zs g n st pp=xx zs g N [F] []
theorem ui{zs:List Tm3}:∀ {st:List Bx},(∀ c∈st,dR zs c)->0<=gZ st/\(st.length:Int)<=gZ st
 | [],_=>⟨K3 _,K3 _⟩
 | c::st,h=>by
  have ih:=ui (st:=st) λ d hd=>h d (Ko _ hd);have:=j9 (h c Kp).bx
  show 0<=2 * dQ c - 1+gZ st/\((st.length+1:Nat):Int)<=2 * dQ c - 1+gZ st
  omega
theorem StI.step{zs:List Tm3}{g:Int}{N:Nat}{F c:Bx}{most looked:Int}{st:List Bx}{pp:List (List V)}(hz:∀ z∈zs,(1:Int)<=z.1)(h:StI zs g N F most (c::st) looked pp):looked < most/\dR zs c/\(∀ s,sV zs c g=some s->StI zs g N F most st (looked+1) (pp++[s]))/\(sV zs c g=none->(∀ xs,qO zs g c=some xs->xx zs g N [F] []=(some xs,pp)/\InB c xs/\jc zs xs=g)/\(qO zs g c=none->∃ q,dU zs c (g - dW zs c) (gy zs c - g) zs.length=some q/\q.1 < zs.length/\StI zs g N F most (loC c q.1 (bM c q)::upC c q.1 (bM c q)::st) (looked+1) (pp++[[.str "part",.int (q.1:Int),.int (bM c q)]]))):=by
 have hc:=h.ok c Kp;have hst:∀ d∈st,dR zs d:=λ d hd=>h.ok d (Ko _ hd);have hv:=j9 hc.bx;have hp:=h.pot;have hn:=ui hst;have hlen:=h.len;obtain⟨n,hn1,hn2⟩:=h.out;have ep:gZ (c::st)=2 * dQ c - 1+gZ st:=rfl;rw [ep] at hp hn1;have hz0:∀ z∈zs,(0:Int)<=z.1:=λ z hm=>by have:=hz z hm;omega
 obtain⟨m,rfl⟩:∃ m,n=m+1:=⟨n - 1,by omega⟩;have lsn:∀ s:List V,((pp++[s]).length:Int)=looked+1:=λ s=>by rw [Ku,KW];omega
 refine⟨by omega,hc,λ s he=>?_,λ he=>⟨λ xs hx=>?_,λ hno=>?_⟩⟩
 ·refine⟨hst,by omega,lsn s,Rep.snoc (wZ he) hc h.rep,m,by omega,?_⟩;rw [←hn2]
  show _=(match sV zs c g with|some s=>_|none=>_)
  rw [he]
 ·refine⟨?_,EK hc hx⟩;rw [←hn2]
  show (match sV zs c g with|some s=>_|none=>_)=_
  rw [he]
  show (match qO zs g c with|some xs=>_|none=>_)=_
  rw [hx]
 ·have he':jl zs c g=false:=zq he;obtain⟨q,hq,hpf,hk,a1,a2⟩:=yi hz hc he' hno;obtain⟨o1,o2⟩:=hc.part hk a1 a2;have hpv:=kY (cs:=c) (k:=q.1) (a:=bM c q) (by rw [hc.len];exact hk);have ep2:gZ (loC c q.1 (bM c q)::upC c q.1 (bM c q)::st)=2 * dQ (loC c q.1 (bM c q)) - 1+(2 * dQ (upC c q.1 (bM c q)) - 1+gZ st):=rfl;refine⟨q,hq,hk,λ d hd=>?_,by rw [ep2];omega,lsn _,Rep.snoc (more:=[loC c q.1 (bM c q),upC c q.1 (bM c q)]) (.inr (.inr (.inr ⟨q.1,bM c q,rfl,hk,a1,a2,he',rfl⟩))) hc h.rep,m,by rw [ep2];omega,?_⟩
  ·rcases KS.mp hd with rfl|hd
   ·exact o2
   ·rcases KS.mp hd with rfl|hd
    ·exact o1
    ·exact hst d hd
  ·rw [←hn2]
   show _=(match sV zs c g with|some s=>_|none=>_)
   rw [he]
   show _=(match qO zs g c with|some xs=>_|none=>_)
   rw [hno,hpf]
theorem StI.done{zs:List Tm3}{g:Int}{N:Nat}{F:Bx}{most looked:Int}{pp:List (List V)}(h:StI zs g N F most [] looked pp):xx zs g N [F] []=(none,pp)/\Rep zs g [F] pp []/\(pp.length:Int)<=most:=by
 obtain⟨n,hn1,hn2⟩:=h.out;have h1:=h.pot;have h2:=h.len;have e:gZ []=0:=rfl;rw [e] at hn1 h1;obtain⟨m,rfl⟩:∃ m,n=m+1:=⟨n - 1,by omega⟩;exact⟨hn2.symm,h.rep,by omega⟩
def dY:List (Int × Int)->Int->Int
 | [],_=>0
 | z::l,t=>(if z.1=t then z.2 else 0)+dY l t
def zP(l:List (Int × Int)):Int:=(l.map λ z=>z.1 * z.2).sum
def jd(ks:List Int)(f:Int->Int):Int:=(ks.map λ t=>t * f t).sum
theorem bw(k:Int)(ks:List Int)(f:Int->Int):jd (k::ks) f=k * f k+jd ks f:=by unfold jd;rw [map_cons,sum_cons]
theorem fL:∀ {ks:List Int}{f:Int->Int},(∀ t∈ks,f t=0)->jd ks f=0
 | [],_,_=>rfl
 | k::ks,f,h=>by rw [bw,h k Kp,fL λ t ht=>h t (Ko _ ht)];omega
theorem k9:∀ (ks:List Int) (f g:Int->Int),jd ks (λ t=>f t+g t)=jd ks f+jd ks g
 | [],_,_=>rfl
 | k::ks,f,g=>by rw [bw,bw,bw,k9 ks f g,Nl];omega
theorem jH:∀ {ks:List Int}{f g:Int->Int},(∀ t∈ks,f t=g t)->jd ks f=jd ks g
 | [],_,_,_=>rfl
 | k::ks,f,g,h=>by rw [bw,bw,h k Kp,jH λ t ht=>h t (Ko _ ht)]
theorem k8:∀ {ks:List Int}{a c:Int},ks.Nodup->(a=0\/a∈ks)->jd ks (λ t=>if a=t then c else 0)=a * c
 | [],a,c,_,h=>by
  rcases h with rfl|h
  ·rw [Int.zero_mul];rfl
  ·cases h
 | k::ks,a,c,hn,h=>by
  rw [bw];obtain⟨hk,hn'⟩:=Lb.mp hn
  by_cases e:a=k
  ·subst e;rw [Kx rfl,fL λ t ht=>Ks λ e=>hk (by rw [e];exact ht)];omega
  ·rw [Ks e,k8 hn' (h.imp id λ hm=>(KS.mp hm).resolve_left e),Ly];omega
theorem Aw{ks:List Int}(hn:ks.Nodup):∀ {l:List (Int × Int)},(∀ z∈l,z.1=0\/z.1∈ks)->jd ks (dY l)=zP l
 | [],_=>fL λ _ _=>rfl
 | z::l,h=>by
  have ih:=Aw hn (l:=l) λ y hy=>h y (mem_cons_of_mem _ hy);have e:dY (z::l)=λ t=>(if z.1=t then z.2 else 0)+dY l t:=rfl;rw [e,k9,k8 hn (h z mem_cons_self),ih];unfold zP;rw [map_cons,sum_cons]
def ar(p:Int):Int:=(p.natAbs:Int)
def loP(z:Int × Int):Int:=if 0 < z.1 then 0 else 1 - z.2
def hiP(z:Int × Int):Int:=if 0 < z.1 then z.2 - 1 else 0
def cG(P:List (Int × Int)):Int->Int:=dY (P.map λ z=>(ar z.1,loP z))
def br(P:List (Int × Int)):Int->Int:=dY (P.map λ z=>(ar z.1,hiP z))
def cW(P:List (Int × Int)):Int->Int:=dY (P.map λ z=>(ar z.1,z.2 - 1))
theorem fE:∀ (P:List (Int × Int)) (t:Int),br P t - cG P t=cW P t
 | [],_=>rfl
 | z::P,t=>by
  have ih:=fE P t;unfold br cG cW at ih ⊢;rw [map_cons,map_cons,map_cons]
  show (if ar z.1=t then hiP z else 0)+_ - ((if ar z.1=t then loP z else 0)+_)=(if ar z.1=t then z.2 - 1 else 0)+_
  by_cases e:ar z.1=t
  ·rw [Kx e,Kx e,Kx e];have e1:loP z=(if 0 < z.1 then 0 else 1 - z.2):=rfl;have e2:hiP z=(if 0 < z.1 then z.2 - 1 else 0):=rfl;rw [e1,e2]
   split<;>omega
  ·rw [Ks e,Ks e,Ks e];omega
def sX:List (Int × Int)->List Int->Int
 | z::P,y::ys=>z.1 * y+sX P ys
 | _,_=>0
def InP:List (Int × Int)->List Int->Prop
 | [],[]=>True
 | z::P,y::ys=>(0<=y/\y < z.2)/\InP P ys
 | _,_=>False
def j6:List (Int × Int)->List Int->List (Int × Int)
 | z::P,y::ys=>(ar z.1,if 0 < z.1 then y else 0 - y)::j6 P ys
 | _,_=>[]
theorem iN:∀ {P:List (Int × Int)}{ys:List Int},InP P ys->∀ t,cG P t<=dY (j6 P ys) t/\dY (j6 P ys) t<=br P t
 | [],[],_,_=>⟨K3 _,K3 _⟩
 | [],_::_,h,_=>h.elim
 | _::_,[],h,_=>h.elim
 | z::P,y::ys,h,t=>by
  have ih:=iN h.2 t;unfold cG br at ih ⊢;rw [map_cons,map_cons]
  show (if ar z.1=t then loP z else 0)+_<=(if ar z.1=t then (if 0 < z.1 then y else 0 - y) else 0)+dY (j6 P ys) t/\(if ar z.1=t then (if 0 < z.1 then y else 0 - y) else 0)+dY (j6 P ys) t<=(if ar z.1=t then hiP z else 0)+_
  have:=h.1
  by_cases e:ar z.1=t
  ·rw [Kx e,Kx e,Kx e];have e1:loP z=(if 0 < z.1 then 0 else 1 - z.2):=rfl;have e2:hiP z=(if 0 < z.1 then z.2 - 1 else 0):=rfl;rw [e1,e2]
   split<;>omega
  ·rw [Ks e,Ks e,Ks e];omega
theorem p3:∀ {P:List (Int × Int)}{ys:List Int},InP P ys->zP (j6 P ys)=sX P ys
 | [],[],_=>rfl
 | [],_::_,h=>h.elim
 | _::_,[],h=>h.elim
 | z::P,y::ys,h=>by
  have ih:=p3 h.2;unfold zP at ih ⊢
  show (((ar z.1,if 0 < z.1 then y else 0 - y)::j6 P ys).map λ z=>z.1 * z.2).sum=z.1 * y+sX P ys
  rw [KZ,Mt,ih];congr 1
  show ar z.1 * (if 0 < z.1 then y else 0 - y)=z.1 * y
  unfold ar;split
  ·rw [show ((z.1.natAbs:Nat):Int)=z.1 by omega]
  ·rw [show ((z.1.natAbs:Nat):Int)=-z.1 by omega,Int.zero_sub,Int.neg_mul_neg]
theorem mj{ks:List Int}:∀ {P:List (Int × Int)}{ys:List Int},(∀ z∈P,ar z.1=0\/ar z.1∈ks)->∀ z∈j6 P ys,z.1=0\/z.1∈ks
 | [],_,_,_,h=>by cases h
 | _::_,[],_,_,h=>by cases h
 | z::P,y::ys,hk,q,hq=>by
  rcases KS.mp hq with rfl|hq
  ·exact hk z Kp
  ·exact mj (λ x hx=>hk x (Ko _ hx)) q hq
def ag(ks:List Int)(P:List (Int × Int)):List Tm3:=ks.map λ t=>(t,cG P t,br P t)
theorem pV(P:List (Int × Int))(f:Int->Int):∀ ks:List Int,jc (ag ks P) (ks.map f)=jd ks f
 | []=>rfl
 | k::ks=>by
  rw [bw,←pV P f ks];rfl
theorem uV{P:List (Int × Int)}{f:Int->Int}(h:∀ t,cG P t<=f t/\f t<=br P t):∀ ks:List Int,InB ((ag ks P).map λ z=>z.2) (ks.map f)
 | []=>trivial
 | k::ks=>⟨h k,uV h ks⟩
theorem wX{ks:List Int}{P:List (Int × Int)}{ys:List Int}{g:Int}(hn:ks.Nodup)(hk:∀ z∈P,ar z.1=0\/ar z.1∈ks)(hy:InP P ys)(hg:sX P ys=g):∃ xs,InB ((ag ks P).map λ z=>z.2) xs/\jc (ag ks P) xs=g:=
 ⟨ks.map (dY (j6 P ys)),uV (iN hy) ks,by rw [pV,Aw hn (mj hk),p3 hy,hg]⟩
def tkF(z:Int × Int)(L:Int->Int):Int:=if L (ar z.1) < z.2 - 1 then L (ar z.1) else z.2 - 1
def qK(L:Int->Int)(a v:Int):Int->Int:=λ t=>if t=a then v else L t
def eW:(Int->Int)->List (Int × Int)->List Int
 | _,[]=>[]
 | L,z::P=>(if 0<=z.1 then tkF z L else z.2 - 1 - tkF z L)::eW (qK L (ar z.1) (L (ar z.1) - tkF z L)) P
theorem cv(z:Int × Int)(P:List (Int × Int))(t:Int):cW (z::P) t=(if ar z.1=t then z.2 - 1 else 0)+cW P t:=rfl
theorem gB:∀ {P:List (Int × Int)},(∀ z∈P,(1:Int)<=z.2)->∀ t,0<=cW P t
 | [],_,_=>K3 _
 | z::P,h,t=>by
  have ih:=gB (P:=P) (λ y hy=>h y (Ko _ hy)) t;have:=h z Kp;rw [cv]
  split<;>omega
theorem mI{z:Int × Int}{P:List (Int × Int)}{L:Int->Int}(h1:1<=z.2)(hP:∀ y∈P,(1:Int)<=y.2)(h:∀ t,0<=L t/\L t<=cW (z::P) t):(0<=tkF z L/\tkF z L<=z.2 - 1)/\∀ t,0<=qK L (ar z.1) (L (ar z.1) - tkF z L) t/\qK L (ar z.1) (L (ar z.1) - tkF z L) t<=cW P t:=by
 have ha:=h (ar z.1);rw [cv,if_pos rfl] at ha;have hc:=gB hP (ar z.1);refine⟨by unfold tkF;split<;>omega,λ t=>?_⟩;unfold qK
 by_cases e:t=ar z.1
 ·rw [if_pos e,e];unfold tkF
  split<;>omega
 ·rw [Ks e];have:=h t;rw [cv,Ks (λ q=>e q.symm)] at this;omega
theorem uY:∀ {P:List (Int × Int)}{L:Int->Int},(∀ y∈P,(1:Int)<=y.2)->(∀ t,0<=L t/\L t<=cW P t)->InP P (eW L P)
 | [],_,_,_=>trivial
 | z::P,L,h1,h=>by
  have hP:∀ y∈P,(1:Int)<=y.2:=λ y hy=>h1 y (Ko _ hy);obtain⟨a,b⟩:=mI (h1 z Kp) hP h;refine⟨?_,uY hP b⟩
  show 0<=(if 0<=z.1 then tkF z L else z.2 - 1 - tkF z L)/\(if 0<=z.1 then tkF z L else z.2 - 1 - tkF z L) < z.2
  split<;>omega
theorem qm{ks:List Int}(hn:ks.Nodup):∀ {P:List (Int × Int)}{L:Int->Int},(∀ y∈P,(1:Int)<=y.2)->(∀ z∈P,ar z.1=0\/ar z.1∈ks)->(∀ t,0<=L t/\L t<=cW P t)->sX P (eW L P)=zP (P.map λ z=>(ar z.1,loP z))+jd ks L
 | [],L,_,_,h=>by
  rw [fL λ t _=>by have:=h t;have e:cW [] t=0:=rfl;omega];rfl
 | z::P,L,h1,hk,h=>by
  have hP:∀ y∈P,(1:Int)<=y.2:=λ y hy=>h1 y (Ko _ hy);obtain⟨a,b⟩:=mI (h1 z Kp) hP h;have ih:=qm hn hP (λ y hy=>hk y (Ko _ hy)) b
  have hL:L=λ t=>qK L (ar z.1) (L (ar z.1) - tkF z L) t+(if ar z.1=t then tkF z L else 0):=funext λ t=>by
   unfold qK
   by_cases e:t=ar z.1
   ·rw [Kx e,Kx e.symm,e];omega
   ·rw [Ks e,Ks (λ q=>e q.symm)];omega
  have hkS:jd ks L=jd ks (qK L (ar z.1) (L (ar z.1) - tkF z L))+ar z.1 * tkF z L:=by
   conv=>lhs;rw [hL]
   rw [k9,k8 hn (hk z Kp)]
  show z.1 * (if 0<=z.1 then tkF z L else z.2 - 1 - tkF z L)+sX P (eW (qK L (ar z.1) (L (ar z.1) - tkF z L)) P)=zP ((ar z.1,loP z)::P.map λ z=>(ar z.1,loP z))+jd ks L
  rw [ih,hkS];unfold zP;rw [map_cons,sum_cons]
  have key:z.1 * (if 0<=z.1 then tkF z L else z.2 - 1 - tkF z L)=ar z.1 * loP z+ar z.1 * tkF z L:=by
   have e1:loP z=(if 0 < z.1 then 0 else 1 - z.2):=rfl;rw [e1];unfold ar
   rcases Int.lt_trichotomy z.1 0 with h|h|h
   ·rw [Ks %[0|8],Ks %[0|8],show ((z.1.natAbs:Nat):Int)=-z.1 by omega,←Nl,show 1 - z.2+tkF z L=-(z.2 - 1 - tkF z L) by omega,Int.neg_mul_neg]
   ·rw [h];simp
   ·rw [Kx %[0|8],Kx h,show ((z.1.natAbs:Nat):Int)=z.1 by omega,Ly,K9]
  rw [key];dsimp only;omega
def cu:List Tm3->List Int->Int->Int
 | z::zs,x::xs=>λ t=>if z.1=t then x - z.2.1 else cu zs xs t
 | _,_=>λ _=>0
theorem iT{P:List (Int × Int)}(hc:∀ t,0<=cW P t):∀ {ks:List Int}{xs:List Int},InB ((ag ks P).map λ z=>z.2) xs->∀ t,0<=cu (ag ks P) xs t/\cu (ag ks P) xs t<=cW P t
 | [],[],_,t=>⟨K3 _,hc t⟩
 | [],_::_,h,_=>h.elim
 | _::_,[],h,_=>h.elim
 | k::ks,x::xs,h,t=>by
  show 0<=(if k=t then x - cG P k else cu (ag ks P) xs t)/\(if k=t then x - cG P k else cu (ag ks P) xs t)<=cW P t
  by_cases e:k=t
  ·rw [Kx e];have h1:cG P k<=x/\x<=br P k:=h.1;have:=fE P k;rw [←e];omega
  ·rw [Ks e];exact iT hc h.2 t
theorem qg{P:List (Int × Int)}:∀ {ks:List Int}{xs:List Int},ks.Nodup->InB ((ag ks P).map λ z=>z.2) xs->jd ks (cu (ag ks P) xs)=jc (ag ks P) xs - jd ks (cG P)
 | [],[],_,_=>rfl
 | [],_::_,_,h=>h.elim
 | _::_,[],_,h=>h.elim
 | k::ks,x::xs,hn,h=>by
  obtain⟨hk,hn'⟩:=Lb.mp hn;have ih:=qg hn' h.2;rw [bw,bw]
  have e1:cu (ag (k::ks) P) (x::xs) k=x - cG P k:=by
   show (if k=k then x - cG P k else cu (ag ks P) xs k)=_
   rw [Kx rfl]
  have e2:jd ks (cu (ag (k::ks) P) (x::xs))=jd ks (cu (ag ks P) xs):=jH λ t ht=>by
   show (if k=t then x - cG P k else cu (ag ks P) xs t)=_
   rw [Ks λ e=>hk (by rw [e];exact ht)]
  rw [e1,e2,ih]
  show _=k * x+jc (ag ks P) xs - _
  rw [Int.mul_sub];omega
theorem meet{ks:List Int}{P:List (Int × Int)}{xs:List Int}(hn:ks.Nodup)(h1:∀ y∈P,(1:Int)<=y.2)(hk:∀ z∈P,ar z.1=0\/ar z.1∈ks)(hx:InB ((ag ks P).map λ z=>z.2) xs):InP P (eW (cu (ag ks P) xs) P)/\sX P (eW (cu (ag ks P) xs) P)=jc (ag ks P) xs:=by
 have hb:=iT (gB h1) hx;refine⟨uY h1 hb,?_⟩;rw [qm hn h1 hk hb,qg hn hx]
 have:jd ks (cG P)=zP (P.map λ z=>(ar z.1,loP z)):=Aw hn λ z hz=>by
  obtain⟨y,hy,rfl⟩:=KG.mp hz;exact hk y hy
 omega
def b6(ks:List Int)(f:Int->Int):Int:=ks.foldr (λ t r=>(1+f t) * r) 1
theorem fJ{f:Int->Int}(h:∀ t,0<=f t):∀ ks:List Int,1<=b6 ks f
 | []=>K3 _
 | k::ks=>by
  have ih:=fJ h ks;have:=h k;have m:=LP (show (1:Int)<=1+f k by omega) ih ⋯ %[0|8]
  show 1<=(1+f k) * b6 ks f
  omega
theorem jF{f g:Int->Int}:∀ {ks:List Int},(∀ t∈ks,f t=g t)->b6 ks f=b6 ks g
 | [],_=>rfl
 | k::ks,h=>by
  show (1+f k) * b6 ks f=(1+g k) * b6 ks g
  rw [h k Kp,jF λ t ht=>h t (Ko _ ht)]
theorem jE{f:Int->Int}{a d:Int}(hf:∀ t,0<=f t)(hd:0<=d):∀ {ks:List Int},ks.Nodup->b6 ks (λ t=>(if a=t then d else 0)+f t)<=(1+d) * b6 ks f
 | [],_=>by show 1<=(1+d) * 1;omega
 | k::ks,hn=>by
  obtain⟨hk,hn'⟩:=Lb.mp hn;have hp:=fJ hf ks;have h0:=hf k
  show (1+((if a=k then d else 0)+f k)) * b6 ks (λ t=>(if a=t then d else 0)+f t)<=(1+d) * ((1+f k) * b6 ks f)
  by_cases e:a=k
  ·subst e;rw [Kx rfl,jF (g:=f) λ t ht=>by rw [Ks λ e=>hk (by rw [e];exact ht),K9],←LJ];refine Lf ?_ %[0|8];have:=Int.mul_nonneg hd h0;rw [Int.add_mul,Int.one_mul,Nl,Mx];omega
  ·rw [Ks e,K9];have ih:=jE (a:=a) hf hd hn';have:=KI ih (show 0<=1+f k by omega);rw [←LJ,Ln (1+f k) (1+d),LJ] at this;exact this
theorem qc{ks:List Int}(hn:ks.Nodup):∀ {P:List (Int × Int)},(∀ y∈P,(1:Int)<=y.2)->b6 ks (cW P)<=(P.foldr (λ z r=>z.2 * r) 1)
 | [],_=>by
  have:∀ ks:List Int,b6 ks (cW [])=1:=λ ks=>by
   induction ks with
   | nil=>rfl
   | cons k ks ih=>show (1+0) * b6 ks (cW [])=1;rw [ih];rfl
  rw [this];exact K3 _
 | z::P,h=>by
  have hP:∀ y∈P,(1:Int)<=y.2:=λ y hy=>h y (Ko _ hy);have ih:=qc hn hP;have hz:=h z Kp;have e:cW (z::P)=λ t=>(if ar z.1=t then z.2 - 1 else 0)+cW P t:=rfl;have st:=jE (a:=ar z.1) (d:=z.2 - 1) (gB hP) %[0|8] hn;rw [e];have m:=KI ih (show 0<=z.2 by omega);rw [show 1+(z.2 - 1)=z.2 by omega] at st;exact Int.le_trans st m
theorem ip(P:List (Int × Int)):∀ ks:List Int,dQ ((ag ks P).map λ z=>z.2)=b6 ks (cW P)
 | []=>rfl
 | k::ks=>by
  show (br P k - cG P k+1) * dQ ((ag ks P).map λ z=>z.2)=(1+cW P k) * b6 ks (cW P)
  rw [ip P ks,fE,Int.add_comm]
def ai(A B:List (Int × Int)):List (Int × Int):=(A.map λ a=>(a.2,a.1))++B.map λ a=>(-a.2,a.1)
theorem fW{l b:Addr}{xs ys:List V}{H:Hp}{Q:VK}(h:H l=some (.lst xs))(h':H b=some (.lst ys))(hl:xs.length+ys.length<=sizeLine)(q:g8 (.lst (xs++ys)) H Q):GI GH (.ref l) Q (.ref b) H:=by
 rw [Ag,Af,aO,h]
 show aS (aO H b) (GJ xs H Q)
 rw [aO,h'];exact⟨hl,q⟩
theorem ku{α:Type}{R:α->V->Prop}{as bs:List α}{xs ys:List V}(h1:Al R as xs)(h2:Al R bs ys):Al R (as++bs) (xs++ys):=by
 refine⟨by rw [Ku,Ku,h1.1,h2.1],λ i z y hz hy=>?_⟩
 by_cases hi:i < as.length
 ·rw [Lc hi] at hz;rw [Lc (by rw [h1.1];exact hi)] at hy;exact h1.2 i z y hz hy
 ·rw [KR %[0|8]] at hz;rw [KR (by rw [h1.1];omega),h1.1] at hy;exact h2.2 _ z y hz hy
theorem kr{α β:Type}{R:β->V->Prop}{f:α->β}{as:List α}{ys:List V}(h:Al (λ a y=>R (f a) y) as ys):Al R (as.map f) ys:=by
 refine⟨by rw [Kr];exact h.1,λ i z y hz hy=>?_⟩;rw [KH] at hz;obtain⟨a,ha,rfl⟩:=KA.mp hz;exact h.2 i a y ha hy
abbrev mV(C:Addr)(u:Addr)(v:Addr)(H:Hp)(Q:VK)(E:XK):Prop:=∃ (r1 r2 f1 f2:Int) (A B:List (Int × Int)),bc C H u r1 f1 A/\bc C H v r2 f2 B/\A.length<=8/\B.length<=8/\∀ (r:Addr) (H':Hp),H r=none->Ext H H'->cx H' r (ai A B)->Q (.ref r) H'
def nX(C:Addr):Sp:=λ vs H Q E=>∃ (u:Addr) (v:Addr),vs=[.ref u,.ref v]/\(mV C u v H Q E)
theorem mK(C:Addr)(u:Addr)(v:Addr)(H:Hp)(Q:VK)(E:XK):nX C [.ref u,.ref v] H Q E=(mV C u v H Q E):=qL (f:=λ (u:Addr) (v:Addr)=>[.ref u,.ref v]) (λ _ _ _ _ h=>by cases h;exact⟨rfl,rfl⟩) u v
theorem wu(C:Addr){vs:List V}{H:Hp}{Q:VK}{E:XK}(h:nX C vs H Q E):vs.length=2:=qM h λ _ _=>rfl
theorem qe(T:Tx K mg t):bq P w K mg base CX0 1 t.a_pulls t.d_pulls ["one", "other"] (nX t.a_View):=by
 refine T.F_pulls.ok De (λ vs H Q E h=>wu _ h) (λ c A o s H vs Q E hr h=>?_)
 ·obtain⟨u,v,rfl,r1,r2,f1,f2,A,B,vu,vv,hA,hB,k⟩:=h;obtain⟨dx,l,hu,ys,hl,al⟩:=vu.ob;obtain⟨dy,l2,hv,ys2,hl2,al2⟩:=vv.ob;have c1:=T.cl_View;have c3:=T.na_View_axes;have g1:=dr r1 f1 l;have g2:=dr r2 f2 l2;refine⟨_,%[%[%[fe,%[(["size", "pace", "one", "other"]),(2),(aD (aa il) ["one", "other"] rfl rfl nofun),rfl,%[%[%[0|0],rfl|36]|20],(λ C s₀ H₀ ex pn=>(%[(2),rfl,%[%[(0),_,(show List.Nodup (["size", "pace", "one", "other"]:List Str) from by decide +kernel),rfl,(Or.inl rfl),%[0|7]|17],%[%[(1),_,(show List.Nodup (["size", "pace", "one", "other"]:List Str) from by decide +kernel),rfl,(Or.inl rfl),%[0|7]|17],(@aA _),∅|15],∅|15],∅,∅|22].mono λ _ _ _ _ h=>aU h)),(λ C s₀ H₀ ex pn=>(@aH _)),(λ C s₀ H₀ ex pn=>%[%[%[1|0],%[%[0|0]|1]|1]|18]),(by intros;rfl)|21],%[(["size", "pace", "one", "other"]),(2),(aD (aa il) ["one", "other"] rfl rfl nofun),rfl,%[%[%[1|0],rfl|36]|20],(λ C s₀ H₀ ex pn=>(%[(2),rfl,%[%[(0),_,(show List.Nodup (["size", "pace", "one", "other"]:List Str) from by decide +kernel),rfl,(Or.inl rfl),%[0|7]|17],%[%[(1),_,(show List.Nodup (["size", "pace", "one", "other"]:List Str) from by decide +kernel),rfl,(Or.inl rfl),%[0|7]|17],(@aA _),∅|15],∅|15],∅,∅|22].mono λ _ _ _ _ h=>aU h)),(λ C s₀ H₀ ex pn=>(@aH _)),(λ C s₀ H₀ ex pn=>%[%[(@DP _ _ _ _ _ _ uE %[1|0]),%[%[0|0]|1]|1]|18]),(by intros;rfl)|21]|10]|13]|12],?_⟩;rw [show start ["one", "other"] [.ref u,.ref v]=[some (.ref u),some (.ref v)] from rfl];exists k;ac_rfl;have wk:=fV (K:=K) (R:=axP) (λ _ _ _ _ h e=>h.ext e) hl (me al);refine bS A (λ _=>true) axP (λ D a y H'=>axP (a.2,a.1) y H') wk.1 wk.2 (λ D a y H1 H2 h e=>axP.ext (a:=(a.2,a.1)) h e) (λ D a y H1 xs o h hD=>axP.upd (z:=(a.2,a.1)) h hD) (au %[0|8]) ?_ ?_
  ·intro D a x H' N1 N0 ha hD e _ ⟨q,hx,hq⟩ k1 _;subst hx;have k1':=k1 rfl;clear k1 k wk;simp! only [↓bP,↓aI];intro t1 H6 ht1 e6 h6;exact k1' _ H6 e6 ⟨t1,rfl,h6⟩
  intro D xs1 H1 hD e1 h1 al1;rw [fT] at al1;have hv1:=e1.at hv;have hl21:=e1.at hl2;exists al1;clear wk;have wk:=fV (K:=K) (R:=axP) (λ _ _ _ _ h e=>h.ext e) hl21 ((me al2).imp λ _ _ t=>axP.ext t e1);ac_rfl;refine bS B (λ _=>true) axP (λ D a y H'=>axP (-a.2,a.1) y H') wk.1 wk.2 (λ D a y H1 H2 h e=>axP.ext (a:=(-a.2,a.1)) h e) (λ D a y H1 xs o h hD=>axP.upd (z:=(-a.2,a.1)) h hD) (au %[0|8]) ?_ ?_
  ·intro D a x H' N1 N0 ha hD e _ ⟨q,hx,hq⟩ k1 _;subst hx;have k1':=k1 rfl;clear k1 k wk;simp! only [↓bP,↓aI];intro t1 H6 ht1 e6 h6;exact k1' _ H6 e6 ⟨t1,rfl,h6⟩
  intro D2 xs2 H2 hD2 e2 h2 al2';rw [fT] at al2';have h1_2:=e2.at h1;have n1:xs1.length=A.length:=(al1 ()).1;have n2:xs2.length=B.length:=al2'.1;have fin:Al (λ z y=>axP z y H2) (ai A B) (xs1++xs2):=ku (kr ((al1 ()).imp λ _ _ t=>axP.ext t e2)) (kr al2');exists fin;clear wk al1 al2' hv1 hl21;refine fW h1_2 h2 (au %[0|8]) ?_;intro D3 H3 hD3 e3 h3;exact k () D3 H3 ((e1.trans e2).free hD3) (e1.trans (e2.trans e3)) ⟨_,h3,(fin ()).imp λ _ _ t=>axP.ext t e3⟩
abbrev mU(C:Addr)(u:Addr)(v:Addr)(H:Hp)(Q:VK)(E:XK):Prop:=∃ (room f1 f2:Int) (A B:List (Int × Int)),bc C H u room f1 A/\bc C H v room f2 B/\Q .non H
def nW(C:Addr):Sp:=λ vs H Q E=>∃ (u:Addr) (v:Addr),vs=[.ref u,.ref v]/\(mU C u v H Q E)
theorem xc(C:Addr)(u:Addr)(v:Addr)(H:Hp)(Q:VK)(E:XK):nW C [.ref u,.ref v] H Q E=(mU C u v H Q E):=qL (f:=λ (u:Addr) (v:Addr)=>[.ref u,.ref v]) (λ _ _ _ _ h=>by cases h;exact⟨rfl,rfl⟩) u v
theorem wt(C:Addr){vs:List V}{H:Hp}{Q:VK}{E:XK}(h:nW C vs H Q E):vs.length=2:=qM h λ _ _=>rfl
theorem i7(T:Tx K mg t):bq P w K mg base CX0 1 t.a_refuse_rooms t.d_refuse_rooms ["one", "other"] (nW t.a_View):=by
 refine T.F_refuse_rooms.ok jq (λ vs H Q E h=>wt _ h) (λ c A o s H vs Q E hr h=>?_)
 ·obtain⟨u,v,rfl,room,f1,f2,A,B,vu,vv,k⟩:=h;obtain⟨dx,D,hu,_⟩:=vu.ob;obtain⟨dy,D2,hv,_⟩:=vv.ob;have c1:=T.cl_View;have c4:=T.na_View_room;have g1:=jy room f1 D;have g2:=jy room f2 D2;refine⟨_,%[%[%[(cy hr.units),%[%[0|0],rfl|36],%[%[1|0],rfl|36],(af _)|14],%[(@gP _ _)|12],(@ao _)|16]|12],?_⟩;rw [show start ["one", "other"] [.ref u,.ref v]=[some (.ref u),some (.ref v)] from rfl];ac_rfl
theorem iG{kvs:List (Key × V)}{k:Key}(v:V){x:V}(h:dw kvs k=some x):(dg kvs k v).map (·.1)=kvs.map (·.1):=by
 unfold dg;rw [eE,h,Option.isSome_some,if_pos rfl,map_map];refine List.map_congr_left λ p _=>?_
 show (if p.1=k then (p.1,v) else p).1=p.1
 split<;>rfl
theorem fZ:∀ (l:List (Int × Int)) (z:Int × Int) (t:Int),dY (l++[z]) t=dY l t+(if z.1=t then z.2 else 0)
 | [],z,t=>by show (if z.1=t then z.2 else 0)+0=0+_;omega
 | y::l,z,t=>by
  show (if y.1=t then y.2 else 0)+dY (l++[z]) t=(if y.1=t then y.2 else 0)+dY l t+_
  rw [fZ l z t];omega
theorem gT(P:List (Int × Int))(z:Int × Int)(t:Int):cG (P++[z]) t=cG P t+(if ar z.1=t then loP z else 0):=by
 unfold cG;rw [map_append];exact fZ _ _ _
theorem fN(P:List (Int × Int))(z:Int × Int)(t:Int):br (P++[z]) t=br P t+(if ar z.1=t then hiP z else 0):=by
 unfold br;rw [map_append];exact fZ _ _ _
theorem eh{f:Int × Int->Int}{t:Int}:∀ {P:List (Int × Int)},(∀ z∈P,¬ ar z.1=t)->dY (P.map λ z=>(ar z.1,f z)) t=0
 | [],_=>rfl
 | z::P,h=>by
  rw [KZ]
  show (if ar z.1=t then f z else 0)+_=0
  rw [Ks (h z Kp),eh λ y hy=>h y (Ko _ hy)];rfl
theorem gk{kvs:List (Key × V)}{k:Key}{v:V}(h:dw kvs k=none):(dg kvs k v).map (·.1)=kvs.map (·.1)++[k]:=by
 have hn:=L2.GQ h;unfold dg;split
 ·rename_i hc
  exact absurd hc (by
   intro hc;apply hn
   simpa [KG] using hc)
 ·rw [LQ];rfl
structure qP(P:List (Int × Int))(ks:List Int)(k1 k2:List (Key × V)):Prop where
 e1:k1.map (·.1)=ks.map (Sum.inl:Int->Key)
 e2:k2.map (·.1)=ks.map (Sum.inl:Int->Key)
 nd:ks.Nodup
 len:ks.length<=P.length
 v1:∀ t∈ks,dw k1 (.inl t)=some (.int (cG P t))
 v2:∀ t∈ks,dw k2 (.inl t)=some (.int (br P t))
 mem:∀ t,t∈ks ↔ t ≠ 0/\∃ z∈P,ar z.1=t
theorem eG{kvs:List (Key × V)}{ks:List Int}{t:Int}(e:kvs.map (·.1)=ks.map (Sum.inl:Int->Key))(h:¬ t∈ks):dw kvs (.inl t)=none:=by
 cases hv:dw kvs (.inl t) with
 | none=>rfl
 | some v=>
  exfalso;unfold dw at hv;obtain⟨kv,hf,rfl⟩:=Option.map_eq_some_iff.mp hv;have e2:=List.find?_some hf;have e3:kv.1=.inl t:=of_decide_eq_true e2;have hm:kv.1∈kvs.map (·.1):=List.mem_map.mpr ⟨kv,List.mem_of_find?_eq_some hf,rfl⟩;rw [e,e3] at hm;obtain⟨x,hx,ex⟩:=List.mem_map.mp hm;cases ex;exact h hx
theorem qP.get{P:List (Int × Int)}{ks:List Int}{k1 k2:List (Key × V)}(h:qP P ks k1 k2){t:Int}(ht:t ≠ 0):(dw k1 (.inl t)).getD (.int 0)=.int (cG P t)/\(dw k2 (.inl t)).getD (.int 0)=.int (br P t):=by
 by_cases hm:t∈ks
 ·rw [h.v1 t hm,h.v2 t hm];exact⟨rfl,rfl⟩
 ·have hno:∀ z∈P,¬ ar z.1=t:=λ z hz e=>hm ((h.mem t).mpr ⟨ht,z,hz,e⟩);rw [eG h.e1 hm,eG h.e2 hm];unfold cG br;rw [eh hno,eh hno];exact⟨rfl,rfl⟩
theorem qP.nil:qP [] [] [] []:=⟨rfl,rfl,MQ,Kq _,(λ t h=>by cases h),(λ t h=>by cases h),λ t=>⟨(λ h=>by cases h),λ ⟨_,z,hz,_⟩=>by cases hz⟩⟩
theorem qP.skip{P:List (Int × Int)}{ks:List Int}{k1 k2:List (Key × V)}{z:Int × Int}(h:qP P ks k1 k2)(hz:z.1=0):qP (P++[z]) ks k1 k2:=by
 have h0:ar z.1=0:=by rw [hz];rfl
 have hne:∀ t∈ks,¬ ar z.1=t:=λ t ht e=>((h.mem t).mp ht).1 (by rw [←e];exact h0);refine⟨h.e1,h.e2,h.nd,by rw [Ku];have:=h.len;omega,λ t ht=>?_,λ t ht=>?_,λ t=>?_⟩
 ·rw [h.v1 t ht,gT,Ks (hne t ht),Lz]
 ·rw [h.v2 t ht,fN,Ks (hne t ht),Lz]
 ·rw [h.mem t];constructor
  ·rintro ⟨a,y,hy,e⟩;exact⟨a,y,Ll _ hy,e⟩
  ·rintro ⟨a,y,hy,e⟩
   rcases K4.mp hy with hy|hy
   ·exact⟨a,y,hy,e⟩
   ·rw [KQ.mp hy,h0] at e;exact absurd e.symm a
theorem qP.put{P:List (Int × Int)}{ks:List Int}{k1 k2:List (Key × V)}{z:Int × Int}(h:qP P ks k1 k2)(hz:z.1 ≠ 0):∃ ks',qP (P++[z]) ks' (dg k1 (.inl (ar z.1)) (.int (cG P (ar z.1)+loP z))) (dg k2 (.inl (ar z.1)) (.int (br P (ar z.1)+hiP z))):=by
 have h0:ar z.1 ≠ 0:=by unfold ar;omega
 have hv:∀ (k:List (Key × V)) (v:V) (t:Int),dw (dg k (.inl (ar z.1)) v) (.inl t)=if ar z.1=t then some v else dw k (.inl t):=λ k v t=>by
  rw [ky]
  by_cases e:ar z.1=t
  ·rw [Kx e,Kx (by rw [e])]
  ·rw [Ks e,Ks (λ q=>e (by cases q;rfl))]
 have fin:∀ ks',(∀ t,t∈ks' ↔ t∈ks\/t=ar z.1)->(dg k1 (.inl (ar z.1)) (.int (cG P (ar z.1)+loP z))).map (·.1)=ks'.map (Sum.inl:Int->Key)->(dg k2 (.inl (ar z.1)) (.int (br P (ar z.1)+hiP z))).map (·.1)=ks'.map (Sum.inl:Int->Key)->ks'.Nodup->ks'.length<=ks.length+1->qP (P++[z]) ks' (dg k1 (.inl (ar z.1)) (.int (cG P (ar z.1)+loP z))) (dg k2 (.inl (ar z.1)) (.int (br P (ar z.1)+hiP z))):=λ ks' hm a1 a2 a3 a4=>by
  refine⟨a1,a2,a3,by rw [Ku,KW];have:=h.len;omega,λ t ht=>?_,λ t ht=>?_,λ t=>?_⟩
  ·rw [hv,gT]
   by_cases e:ar z.1=t
   ·rw [Kx e,Kx e,e]
   ·rw [Ks e,Ks e,Lz];exact h.v1 t (((hm t).mp ht).resolve_right λ q=>e q.symm)
  ·rw [hv,fN]
   by_cases e:ar z.1=t
   ·rw [Kx e,Kx e,e]
   ·rw [Ks e,Ks e,Lz];exact h.v2 t (((hm t).mp ht).resolve_right λ q=>e q.symm)
  ·rw [hm t,h.mem t];constructor
   ·rintro (⟨a,y,hy,e⟩|e)
    ·exact⟨a,y,Ll _ hy,e⟩
    ·exact⟨by rw [e];exact h0,z,KU _ Kp,e.symm⟩
   ·rintro ⟨a,y,hy,e⟩
    rcases K4.mp hy with hy|hy
    ·exact .inl ⟨a,y,hy,e⟩
    ·rw [KQ.mp hy] at e;exact .inr e.symm
 by_cases hm:ar z.1∈ks
 ·refine⟨ks,fin ks (λ t=>⟨.inl,λ q=>q.elim id λ e=>by rw [e];exact hm⟩) ?_ ?_ h.nd %[0|8]⟩
  ·rw [iG _ (h.v1 _ hm)];exact h.e1
  ·rw [iG _ (h.v2 _ hm)];exact h.e2
 ·refine⟨ks++[ar z.1],fin _ (λ t=>by rw [K4,KQ]) ?_ ?_ ?_ (by rw [Ku];exact Kq _)⟩
  ·rw [gk (eG h.e1 hm),h.e1,LQ];rfl
  ·rw [gk (eG h.e2 hm),h.e2,LQ];rfl
  ·rw [List.nodup_append];exact⟨h.nd,by simp,λ a ha b hb e=>hm (by rw [KQ] at hb;rw [←hb,←e];exact ha)⟩
structure ji(ks:List Int)(P:List (Int × Int)):Prop where
 nd:ks.Nodup
 len:ks.length<=P.length
 mem:∀ t,t∈ks ↔ t ≠ 0/\∃ z∈P,ar z.1=t
 ord:ks.Pairwise (· >= ·)
theorem trP.upd{z:Tm3}{y:V}{H:Hp}{p:Addr}{xs:List V}{o:HO}(h:trP z y H)(hp:H p=some (.lst xs)):trP z y (upd H p o):=by
 obtain⟨q,rfl,hq⟩:=h;exact⟨q,rfl,by rw [ak (λ e=>by rw [e,hp] at hq;cases hq)];exact hq⟩
abbrev qH(C:Addr)(u:Addr)(v:Addr)(H:Hp)(Q:VK)(E:XK):Prop:=∃ (room f1 f2:Int) (A B:List (Int × Int)),bc C H u room f1 A/\bc C H v room f2 B/\jt A/\jt B/\∀ (ks:List Int) (l r:Addr) (H':Hp),Ext H H'->H' r=some (.tup [.ref l,.int (f2 - f1)])->gL H' l (ag ks (ai A B))->ji ks (ai A B)->Q (.ref r) H'
def uc(C:Addr):Sp:=λ vs H Q E=>∃ (u:Addr) (v:Addr),vs=[.ref u,.ref v]/\(qH C u v H Q E)
theorem qu(C:Addr)(u:Addr)(v:Addr)(H:Hp)(Q:VK)(E:XK):uc C [.ref u,.ref v] H Q E=(qH C u v H Q E):=qL (f:=λ (u:Addr) (v:Addr)=>[.ref u,.ref v]) (λ _ _ _ _ h=>by cases h;exact⟨rfl,rfl⟩) u v
theorem yQ(C:Addr){vs:List V}{H:Hp}{Q:VK}{E:XK}(h:uc C vs H Q E):vs.length=2:=qM h λ _ _=>rfl
theorem iQ(T:Tx K mg t):bq P w K mg base CX0 2 t.a_gathered t.d_gathered ["one", "other"] (uc t.a_View):=by
 have G_refuse_rooms:=%[i7|47];have G_pulls:=%[qe|47];refine T.F_gathered.ok bL (λ vs H Q E h=>yQ _ h) (λ cdv A' outer s H vs Q E hr h=>?_)
 ·obtain⟨u,v,rfl,room,f1,f2,A,B,vu,vv,hA,hB,k⟩:=h;obtain⟨dx,l1,hu,_⟩:=vu.ob;obtain⟨dy,l2,hv,_⟩:=vv.ob;have c1:=T.cl_View;have c4:=T.na_View_first;have g1:=dA room f1 l1;have g2:=dA room f2 l2;refine⟨_,%[(@eY _ _ _ _ %[refuse_rooms,%[%[0|0],%[%[1|0]|1]|1]|3] ∅),%[(@dM _ _ (2) _ _ _ _ bL.nd rfl (Or.inr rfl) (@gQ _ _) ∅ %[0|7]),%[(@dM _ _ (3) _ _ _ _ bL.nd rfl (Or.inr rfl) (@gQ _ _) ∅ %[0|7]),%[%[KP,rfl,%[%[pulls,%[%[0|0],%[%[1|0]|1]|1]|3]|20],(%[(2),rfl,%[%[4,bL|5],%[%[5,bL|5],(@aA _),∅|15],∅|15],∅,∅|22].mono λ _ _ _ _ h=>aU h),%[%[%[(cy hr.units),%[4|0],%[0|2],(af _)|14],%[%[6,bL,%[abs,bT,%[%[4|0]|1]|6]|4],%[%[7,bL,(@kX _ _ _ _ _ _ _ _ %[dz,%[4|0],%[0|2],(af _)|14] %[aF,%[5|0],%[0|2]|10] %[aF,%[0|2],%[5|0]|10])|4],%[%[(cJ hr.units),%[2|0],%[6|0],%[aJ,%[(cJ hr.units),%[2|0],%[6|0],%[0|2],⟨by rfl,by rfl,by rfl,by rfl⟩|43],%[min,(ei rfl),%[%[0|2],%[%[7|0]|1]|1]|6]|10],rfl|42],%[%[(cJ hr.units),%[3|0],%[6|0],%[aJ,%[(cJ hr.units),%[3|0],%[6|0],%[0|2],⟨by rfl,by rfl,by rfl,by rfl⟩|43],%[max,(dm rfl),%[%[0|2],%[%[7|0]|1]|1]|6]|10],rfl|42]|12]|9]|9]|9],(@ao _)|16]|12],(by intros;rfl)|29],%[%[(["times", "one", "other", "lows", "highs", "pace", "size", "!times", "reach", "terms"]),(1),(8),_,bL.nd,rfl,(Or.inl rfl),(aD (aa eJ) ["one", "other", "lows", "highs", "pace", "size", "times", "reach", "terms"] rfl rfl nofun),rfl,%[(@vz _ ("sorted") _ _ _ _ _ _ _ _ _ _ (sD rfl) ∅ T.z_sorted nofun %[%[2|0]|1] (@Bm _ _ _ _ _ _ _ (@cH _ _ _ _) (@Eu _)) ⋯ ⋯ ∅ ∅ ∅ ∅ ∅)|20],(λ C s₀ H₀ ex pn=>%[(0),_,(show List.Nodup (["times", "one", "other", "lows", "highs", "pace", "size", "!times", "reach", "terms"]:List Str) from by decide +kernel),rfl,(Or.inl rfl),%[0|7]|17]),(λ C s₀ H₀ ex pn=>(@aH _)),(λ C s₀ H₀ ex pn=>%[%[%[0|0],%[(@oz _ _ _ _ _ _ (cJ hr.units) %[3|0] %[0|0] (λ _ _=>rfl)),%[(@oz _ _ _ _ _ _ (cJ hr.units) %[4|0] %[0|0] (λ _ _=>rfl))|1]|1]|1]|18]),∅,(by intros;rfl),%[0|7]|44],%[%[%[%[%[8|0],%[%[aF,%[%[1|0],rfl|36],%[%[0|0],rfl|36]|10]|1]|1]|18]|13]|12]|9]|9]|9]|9]|9],?_⟩;rw [show start ["one", "other", "lows", "highs", "pace", "size", "times", "reach", "terms"] [.ref u,.ref v]=[some (.ref u),some (.ref v),none,none,none,none,none,none,none] from rfl];clear G_refuse_rooms G_pulls
  have hsz:∀ z∈ai A B,(1:Int)<=z.2:=λ z hz=>by
   unfold ai at hz
   rcases K4.mp hz with hz|hz
   ·obtain⟨a,ha,rfl⟩:=KG.mp hz;exact(hA.2 a ha).1
   ·obtain⟨a,ha,rfl⟩:=KG.mp hz;exact(hB.2 a ha).1
  have hPl:(ai A B).length<=16:=by unfold ai;rw [length_append,length_map,length_map];have:=hA.1;have:=hB.1;omega
  exists k;exists hsz;ac_rfl;rw [xc];refine⟨room,f1,f2,A,B,vu,vv,?_⟩;ac_rfl;intro d1 H1 hd1 e1 h1;ac_rfl;intro d2 H2 hd2 e2 h2;have e02:=e1.trans e2;have h1_2:=e2.at h1;have hd1_0:=hd1;have hd2_0:H d2=none:=e1.free hd2;have n12:d1 ≠ d2:=λ z=>by rw [z,hd2] at h1;cases h1
  clear hd1 hd2 h1;ac_rfl;rw [mK];refine⟨room,room,f1,f2,A,B,vu.ext e02,vv.ext e02,hA.1,hB.1,λ r H3 hr3 e3 t3=>?_⟩;obtain⟨ys,hy3,al⟩:=t3;have e03:=e02.trans e3;have nr1:r ≠ d1:=λ z=>by rw [z,h1_2] at hr3;cases hr3
  have nr2:r ≠ d2:=λ z=>by rw [z,h2] at hr3;cases hr3
  have hyl:ys.length=(ai A B).length:=al.1;generalize ai A B=P' at *;have h1_3:=e3.at h1_2;have h2_3:=e3.at h2;exists al;clear hr3 e1 e2 e3 e02 h1_2 h2;ac_rfl;refine cz (xs:=ys) (λ i σ H'=>∃ (ks:List Int) (k1 k2:List (Key × V)) (v4 v5 v6 v7:Option V),σ=[some (.ref u),some (.ref v),some (.ref d1),some (.ref d2),v4,v5,v6,v7,none]/\Ext H H'/\(∀ b o,b ≠ d1->b ≠ d2->H3 b=some o->H' b=some o)/\H' d1=some (.dK k1)/\H' d2=some (.dK k2)/\qP (P'.take i) ks k1 k2) ⟨[],[],[],none,none,none,none,rfl,e03,λ _ _ _ _ h=>h,h1_3,h2_3,qP.nil⟩ (λ i σ H' _ ⟨_,_,_,_,_,_,_,_,_,kp,_⟩=>kp r _ nr1 nr2 hy3) ?_ ?_
  ·rintro i y _ H4 hi ⟨ks,k1,k2,v4,v5,v6,v7,rfl,e4,kp,h14,h24,gi⟩;have hil:i < P'.length:=by have:=(Km.mp hi).1;omega
   obtain⟨z,hz⟩:∃ z,P'[i]? = some z:=⟨_,Kk hil⟩;obtain⟨q,rfl,hq⟩:=(al ()).2 i z y hz hi;have hz1:=hsz () z (LM hz);have htk:P'.take (i+1)=P'.take i++[z]:=by rw [LB,hz];rfl
   have hq4:=kp q _ (λ e=>by rw [e,h1_3] at hq;cases hq) (λ e=>by rw [e,h2_3] at hq;cases hq) hq;have lk1:k1.length < sizeLine:=ib (by have:=Lv List.length gi.e1;have:=gi.len;rw [Kr,Kr] at *;rw [Lm] at *;omega);have lk2:k2.length < sizeLine:=ib (by have:=Lv List.length gi.e2;have:=gi.len;rw [Kr,Kr] at *;rw [Lm] at *;omega);rw [htk]
   by_cases hz0:z.1=0
   ·have gs:=λ (_:Unit)=>gi.skip hz0;clear gi hi hz k;simp! only [↓aG];exact⟨ks,k1,k2,_,_,_,_,rfl,e4,kp,rfl,rfl,gs ()⟩
   ·have hab:ar z.1 ≠ 0:=by unfold ar;omega
    obtain⟨b1,b2⟩:=gi.get hab;have gp:=λ (_:Unit)=>gi.put hz0;exists hz1
    have habs:(if z.1 < 0 then -z.1 else z.1)=ar z.1:=by unfold ar;split<;>omega
    clear gi hi hz k
    by_cases hp:0 < z.1
    ·have hmin:(if z.2 - 1 < 0 then z.2 - 1 else 0)=loP z:=by unfold loP;rw [if_pos hp];have:=hz1 ();split<;>omega
     have hmax:(if 0 < z.2 - 1 then z.2 - 1 else 0)=hiP z:=by unfold hiP;rw [if_pos hp];have:=hz1 ();split<;>omega
     simp! only [↓aG];refine eX h14 ?_;ac_rfl;refine hU (k:=.inl (ar z.1)) h14 ?_;rw [b1];ac_rfl;refine gz (k:=.inl (ar z.1)) h14 lk1 ?_;have h15:upd H4 d1 (.dK (dg k1 (.inl (ar z.1)) (.int (cG (P'.take i) (ar z.1)+loP z)))) d2=some (.dK k2):=by rw [ak (K6 n12)];exact h24
     ac_rfl;refine eX h15 ?_;ac_rfl;refine hU (k:=.inl (ar z.1)) h15 ?_;rw [b2];ac_rfl;refine gz (k:=.inl (ar z.1)) h15 lk2 ?_;obtain⟨ks',gp'⟩:=gp ();exact⟨ks',_,_,_,_,_,_,rfl,(e4.put hd1_0).put hd2_0,λ b o x1 x2 h=>by rw [ak x2,ak x1];exact kp b o x1 x2 h,by rw [ak n12];exact aj,aj,gp'⟩
    ·have hmin:(if 1 - z.2 < 0 then 1 - z.2 else 0)=loP z:=by unfold loP;rw [if_neg hp];have:=hz1 ();split<;>omega
     have hmax:(if 0 < 1 - z.2 then 1 - z.2 else 0)=hiP z:=by unfold hiP;rw [if_neg hp];have:=hz1 ();split<;>omega
     simp! only [↓aG];refine eX h14 ?_;ac_rfl;refine hU (k:=.inl (ar z.1)) h14 ?_;rw [b1];ac_rfl;refine gz (k:=.inl (ar z.1)) h14 lk1 ?_;have h15:upd H4 d1 (.dK (dg k1 (.inl (ar z.1)) (.int (cG (P'.take i) (ar z.1)+loP z)))) d2=some (.dK k2):=by rw [ak (K6 n12)];exact h24
     ac_rfl;refine eX h15 ?_;ac_rfl;refine hU (k:=.inl (ar z.1)) h15 ?_;rw [b2];ac_rfl;refine gz (k:=.inl (ar z.1)) h15 lk2 ?_;obtain⟨ks',gp'⟩:=gp ();exact⟨ks',_,_,_,_,_,_,rfl,(e4.put hd1_0).put hd2_0,λ b o x1 x2 h=>by rw [ak x2,ak x1];exact kp b o x1 x2 h,by rw [ak n12];exact aj,aj,gp'⟩
  ·rintro _ H4 ⟨ks,k1,k2,v4,v5,v6,v7,rfl,e4,kp,h14,h24,gi⟩;rw [hyl,Lx] at gi;have hu4:=e4.at hu;have hv4:=e4.at hv;have hk1:ks.length < 64:=by have:=gi.len;omega
   exists gi;clear al hy3 h1_3 h2_3 hd1_0 hd2_0 kp e03 hsz;ac_rfl;refine xR h14 (gi ()).e1 hk1 λ ms hpm hord=>?_;intro q5 H5 hq5 e5 h5;have h14_5:=e5.at h14;have h24_5:=e5.at h24;have hms:ms.length<=64:=by rw [hpm.length_eq];omega
   exists hpm;exists hord;clear hq5;ac_rfl;have wk:=ju (K:=K) h5;refine bS (ms.map V.int) (λ _=>true) (λ z x H'=>x=z/\H' q5=some (.lst (ms.map V.int))) (λ D z y H'=>trP (vi z,cG P' (vi z),br P' (vi z)) y H') wk.1 wk.2 (λ D z y H1 H2 h e=>trP.ext (z:=(vi z,cG P' (vi z),br P' (vi z))) h e) (λ D z y H1 xs o h hD=>trP.upd (z:=(vi z,cG P' (vi z),br P' (vi z))) h hD) (au (by rw [Kr];omega)) ?_ ?_
   ·intro D z y H' N1 N0 hz hD e _ ⟨hy,_⟩ kx _;subst hy;obtain⟨t',ht',rfl⟩:=KG.mp hz;have hm:=(hpm ()).mem_iff.mp ht';have w1:=(gi ()).v1 t' hm;have w2:=(gi ()).v2 t' hm;have k1':=kx rfl;have a1:=e.at h14_5;have a2:=e.at h24_5;clear kx k hz wk;simp! only [↓aL,↓aI];refine tO (k:=.inl t') a1 w1 ?_;ac_rfl;refine tO (k:=.inl t') a2 w2 ?_;ac_rfl;intro g H6 _ e6 h6;exact k1' _ H6 e6 ⟨g,rfl,h6⟩
   ·intro D zs H6 hD e6 h6 al6;rw [fT] at al6
    have t6:gL H6 D (ag ms P'):=⟨zs,h6,by
     refine⟨by rw [al6.1];unfold ag;rw [length_map,length_map],λ i z y hz hy=>?_⟩;unfold ag at hz;rw [getElem?_map] at hz;obtain⟨t',ht',rfl⟩:=Option.map_eq_some_iff.mp hz;exact al6.2 i (.int t') y (by rw [getElem?_map,ht'];rfl) hy⟩
    have ko:ji ms P':=⟨(hpm ()).nodup_iff.mpr (gi ()).nd,by rw [(hpm ()).length_eq];exact(gi ()).len,λ t'=>(hpm ()).mem_iff.trans ((gi ()).mem t'),hord ()⟩;have e46:=e5.trans e6;have hu6:=e46.at hu4;have hv6:=e46.at hv4;exists t6;exists ko;clear al6 wk hD h6 h5 hu4 hv4 h14_5 h24_5 h14 h24;ac_rfl;intro r7 H7 _ e7 h7;exact k () ms D r7 H7 (e4.trans (e46.trans e7)) h7 (bO (t6 ()) e7) (ko ())
abbrev jZ  (p:Addr) (H:Hp) (Q:VK) (E:XK):Prop:=∃ zs:List Tm3,gL H p zs/\zs.length<=17/\∀ (r:Addr) (H':Hp),Ext H H'->cx H' r (zs.map λ z=>z.2)->Q (.ref r) H'
def kM  : Sp:=λ vs H Q E=>∃ (p:Addr),vs=[.ref p]/\(jZ  p H Q E)
theorem jP  (p:Addr) (H:Hp) (Q:VK) (E:XK):kM  [.ref p] H Q E=(jZ  p H Q E):=sT (f:=λ (p:Addr)=>[.ref p]) (λ _ _ h=>by cases h;exact rfl) p
theorem si  {vs:List V}{H:Hp}{Q:VK}{E:XK}(h:kM  vs H Q E):vs.length=1:=qN h λ _=>rfl
theorem fP(T:Tx K mg t):bq P w K mg base CX0 1 t.a_first_case t.d_first_case ["terms"] kM:=by
 refine T.F_first_case.ok nE (λ vs H Q E h=>si h) (λ c A o s H vs Q E hr h=>?_)
 ·obtain⟨p,rfl,zs,⟨ys,hp,al⟩,hl,k⟩:=h;refine⟨_,%[%[%[(["term", "terms"]),(1),(aD (aa cM) ["terms"] rfl rfl nofun),rfl,%[%[0|0]|20],(λ C s₀ H₀ ex pn=>%[(0),_,(show List.Nodup (["term", "terms"]:List Str) from by decide +kernel),rfl,(Or.inl rfl),%[0|7]|17]),(λ C s₀ H₀ ex pn=>(@aH _)),(λ C s₀ H₀ ex pn=>%[%[%[aB,%[0|0],%[0|2],(λ _ _=>rfl)|11],%[%[aB,%[0|0],%[0|2],(λ _ _=>rfl)|11]|1]|1]|18]),(by intros;rfl)|21]|13]|12],?_⟩;rw [show start ["terms"] [.ref p]=[some (.ref p)] from rfl];exists k;have wk:=fV (K:=K) (R:=trP) (λ _ _ _ _ h e=>h.ext e) hp al;ac_rfl;refine bS zs (λ _=>true) trP (λ D z y H'=>axP z.2 y H') wk.1 wk.2 (λ D z y H1 H2 h e=>axP.ext (a:=z.2) h e) (λ D z y H1 xs o h hD=>axP.upd (z:=z.2) h hD) (au %[0|8]) ?_ ?_
  ·intro D z x H' N1 N0 hz hD e _ ⟨q,hx,hq⟩ k1 _;subst hx;have k1':=k1 rfl;clear k1 k wk;simp! only [↓aL,↓aI];intro t1 H6 ht1 e6 h6;exact k1' _ H6 e6 ⟨t1,rfl,h6⟩
  intro D ys2 H2 hD e2 h2 al2;rw [fT] at al2;have k':=k () D H2 e2 ⟨ys2,h2,kr al2⟩;clear k wk al2;ac_rfl
theorem IH{n:Nat}{c:Int}(h0:0<=c)(h1:c < n):ixN n c=some c.toNat:=by
 unfold ixN;rw [if_pos h0,if_pos %[0|8]]
theorem pS{α:Type}{R:α->V->Prop}{zs:List α}{ys:List V}{k:Nat}{z:α}{y:V}(h:Al R zs ys)(r:R z y):Al R (zs.set k z) (ys.set k y):=by
 refine⟨by rw [MZ,MZ];exact h.1,λ i a b ha hb=>?_⟩;rw [List.getElem?_set] at ha hb
 by_cases e:k=i
 ·rw [Kx e] at ha hb;split at ha
  ·split at hb
   ·cases ha;cases hb;exact r
   ·cases hb
  ·cases ha
 ·rw [Ks e] at ha hb;exact h.2 i a b ha hb
abbrev jR  (q:Addr) (k:Int) (a:Int) (H:Hp) (Q:VK) (E:XK):Prop:=∃ (cs:Bx) (m:Nat),k=(m:Int)/\cx H q cs/\m < cs.length/\cs.length<=17/\∀ (r a1 a2:Addr) (H':Hp),H a1=none->H a2=none->Ext H H'->H' r=some (.lst [.ref a1,.ref a2])->cx H' a1 (upC cs m a)->cx H' a2 (loC cs m a)->Q (.ref r) H'
def kE  : Sp:=λ vs H Q E=>∃ (q:Addr) (k:Int) (a:Int),vs=[.ref q,.int k,.int a]/\(jR  q k a H Q E)
theorem jM  (q:Addr) (k:Int) (a:Int) (H:Hp) (Q:VK) (E:XK):kE  [.ref q,.int k,.int a] H Q E=(jR  q k a H Q E):=pD (f:=λ (q:Addr) (k:Int) (a:Int)=>[.ref q,.int k,.int a]) (λ _ _ _ _ _ _ h=>by cases h;exact⟨rfl,rfl,rfl⟩) q k a
theorem rS  {vs:List V}{H:Hp}{Q:VK}{E:XK}(h:kE  vs H Q E):vs.length=3:=pE h λ _ _ _=>rfl
theorem mw(T:Tx K mg t):bq P w K mg base CX0 1 t.a_parted t.d_parted ["case", "k", "at"] kE:=by
 refine T.F_parted.ok lu (λ vs H Q E h=>rS h) (λ c A o s H vs Q E hr h=>?_)
 ·obtain⟨q,_,a,rfl,cs,m,rfl,⟨ys,hq,al⟩,hm,h17,k⟩:=h;refine⟨_,%[%[3,lu,%[eO,∅,T.z_list,nofun,%[%[0|0]|1],⋯,⋯,∅,∅|40]|4],%[%[4,lu,%[eO,∅,T.z_list,nofun,%[%[0|0]|1],⋯,⋯,∅,∅|40]|4],%[%[%[%[%[aJ,%[2|0],%[0|2]|10],%[%[aB,%[aB,%[0|0],%[1|0],(λ _ _=>rfl)|11],%[0|2],(λ _ _=>rfl)|11]|1]|1]|18],(@Ad _ _ _ _ _ _ _ %[3|0] %[1|0] p5 (by intros;rfl)),∅,∅,∅|38],%[%[%[%[%[aB,%[aB,%[0|0],%[1|0],(λ _ _=>rfl)|11],%[0|2],(λ _ _=>rfl)|11],%[%[2|0]|1]|1]|18],(@Ad _ _ _ _ _ _ _ %[4|0] %[1|0] p5 (by intros;rfl)),∅,∅,∅|38],%[%[%[%[%[3|0],%[%[4|0]|1]|1]|24]|13]|12]|9]|9]|9]|9],?_⟩;rw [show start ["case", "k", "at", "upper", "lower"] [.ref q,.int (m:Int),.int a]=[some (.ref q),some (.int (m:Int)),some (.int a),none,none] from rfl];have hyl:ys.length=cs.length:=al.1;obtain⟨y,hat,hy⟩:=eU al hm;rw [K9] at hat;have ix:ixN ys.length (m:Int)=some m:=by have:=IH (n:=ys.length) (c:=(m:Int)) %[0|8] %[0|8];rw [La] at this;exact this
  exists hyl;exists k;exists al;ac_rfl;intro p1 H1 hp1 e1 h1;have hq1:=e1.at hq;ac_rfl;intro p2 H2 hp2 e2 h2;have hq2:=e2.at hq1;have h1_2:=e2.at h1;have hy2:=(e1.trans e2).at hy;have hp2_0:H p2=none:=e1.free hp2;have n12:p1 ≠ p2:=λ z=>by rw [z,hp2] at h1;cases h1
  have nq1:q ≠ p1:=λ z=>by rw [z,hp1] at hq;cases hq
  have ny1:y ≠ p1:=λ z=>by rw [z,hp1] at hy;cases hy
  have hp1_0:=hp1;clear hp1 hp2 h1 hq1;ac_rfl;intro t3 H3 ht3 e3 h3;have h1_3:=e3.at h1_2;have h2_3:=e3.at h2;have hq3:=e3.at hq2;have hy3:=e3.at hy2;have nt1:t3 ≠ p1:=λ z=>by rw [z,h1_2] at ht3;cases ht3
  have e03:=e1.trans (e2.trans e3);clear ht3 h1_2 h2 hq2 hy2 e1 e2 e3;ac_rfl;have h2_4:upd H3 p1 (.lst (ys.set m (.ref t3))) p2=some (.lst ys):=by rw [ak (K6 n12)];exact h2_3
  have hq4:upd H3 p1 (.lst (ys.set m (.ref t3))) q=some (.lst ys):=by rw [ak nq1];exact hq3
  have hy4:upd H3 p1 (.lst (ys.set m (.ref t3))) y=some (.tup [.int (cs.getD m default).1,.int (cs.getD m default).2]):=by rw [ak ny1];exact hy3
  have h1_4:upd H3 p1 (.lst (ys.set m (.ref t3))) p1=some (.lst (ys.set m (.ref t3))):=aj;have h3_4:upd H3 p1 (.lst (ys.set m (.ref t3))) t3=some (.tup [.int (a+1),.int (cs.getD m default).2]):=by rw [ak nt1];exact h3
  have e04:Ext H (upd H3 p1 (.lst (ys.set m (.ref t3)))):=e03.put hp1_0;generalize upd H3 p1 (.lst (ys.set m (.ref t3)))=H4 at *;clear h1_3 h2_3 hq3 hy3 h3 e03;ac_rfl;intro t5 H5 ht5 e5 h5;have h2_5:=e5.at h2_4;have nt2:t5 ≠ p2:=λ z=>by rw [z,h2_4] at ht5;cases ht5
  have n32:t3 ≠ p2:=λ z=>by rw [z,h2_4] at h3_4;cases h3_4
  have e05:=e04.trans e5;have h1_5:=e5.at h1_4;have h3_5:=e5.at h3_4;clear ht5 hq4 hy4 h2_4 h1_4 h3_4 e04 e5;ac_rfl;have h2_6:upd H5 p2 (.lst (ys.set m (.ref t5))) p2=some (.lst (ys.set m (.ref t5))):=aj;have h1_6:upd H5 p2 (.lst (ys.set m (.ref t5))) p1=some (.lst (ys.set m (.ref t3))):=by rw [ak n12];exact h1_5
  have h3_6:upd H5 p2 (.lst (ys.set m (.ref t5))) t3=some (.tup [.int (a+1),.int (cs.getD m default).2]):=by rw [ak n32];exact h3_5
  have h5_6:upd H5 p2 (.lst (ys.set m (.ref t5))) t5=some (.tup [.int (cs.getD m default).1,.int a]):=by rw [ak nt2];exact h5
  have e06:Ext H (upd H5 p2 (.lst (ys.set m (.ref t5)))):=e05.put hp2_0;generalize upd H5 p2 (.lst (ys.set m (.ref t5)))=H6 at *;clear h1_5 h2_5 h3_5 h5 e05;intro r H7 hr7 e7 h7;have e07:=e06.trans e7;have al7:=λ (_:Unit)=>(al ()).imp λ _ _ t=>axP.ext t e07;exact k () r p1 p2 H7 hp1_0 hp2_0 e07 h7 ⟨_,e7.at h1_6,pS (al7 ()) ⟨t3,rfl,e7.at h3_6⟩⟩ ⟨_,e7.at h2_6,pS (al7 ()) ⟨t5,rfl,e7.at h5_6⟩⟩
def J3(H:Hp):Option (List Int)->V->Prop
 | none,v=>v=.non
 | some xs,v=>∃ r,v=.ref r/\H r=some (.lst (xs.map V.int))
abbrev vd  (p:Addr) (g:Int) (q:Addr) (H:Hp) (Q:VK) (E:XK):Prop:=∃ (zs:List Tm3) (cs:Bx),gL H p zs/\cx H q cs/\cX zs/\dR zs cs/\∀ v H',Ext H H'->J3 H' (qO zs g cs) v->Q v H'
def Ay  : Sp:=λ vs H Q E=>∃ (p:Addr) (g:Int) (q:Addr),vs=[.ref p,.int g,.ref q]/\(vd  p g q H Q E)
theorem Dc  (p:Addr) (g:Int) (q:Addr) (H:Hp) (Q:VK) (E:XK):Ay  [.ref p,.int g,.ref q] H Q E=(vd  p g q H Q E):=pD (f:=λ (p:Addr) (g:Int) (q:Addr)=>[.ref p,.int g,.ref q]) (λ _ _ _ _ _ _ h=>by cases h;exact⟨rfl,rfl,rfl⟩) p g q
theorem CG  {vs:List V}{H:Hp}{Q:VK}{E:XK}(h:Ay  vs H Q E):vs.length=3:=pE h λ _ _ _=>rfl
theorem fS(T:Tx K mg t):bq P w K mg base CX0 4 t.a_numbers_at_once t.d_numbers_at_once ["terms", "goal", "case"] Ay:=by
 have G_least_sum:=%[cS|47];have G_greatest_sum:=%[bZ|47];refine T.F_numbers_at_once.ok gx (λ vs H Q E h=>CG h) (λ c A o s H vs Q E hr h=>?_)
 ·obtain⟨p,g,q,rfl,zs,cs,hp,hq,ht,hc,k⟩:=h;refine⟨_,%[%[%[(bH hr.units),%[least_sum,%[%[0|0],%[%[2|0]|1]|1]|3],%[1|0],(af _)|14],%[%[%[(["bounds", "terms", "goal", "case"]),(1),(aD (aa aV) ["terms", "goal", "case"] rfl rfl nofun),rfl,%[%[2|0]|20],(λ C s₀ H₀ ex pn=>%[(0),_,(show List.Nodup (["bounds", "terms", "goal", "case"]:List Str) from by decide +kernel),rfl,(Or.inl rfl),%[0|7]|17]),(λ C s₀ H₀ ex pn=>(@aH _)),(λ C s₀ H₀ ex pn=>%[aB,%[0|0],%[0|2],(λ _ _=>rfl)|11]),(by intros;rfl)|21]|13]|12],(@ao _)|16],%[%[%[(bH hr.units),%[greatest_sum,%[%[0|0],%[%[2|0]|1]|1]|3],%[1|0],(af _)|14],%[%[%[(["bounds", "terms", "goal", "case"]),(1),(aD (aa aV) ["terms", "goal", "case"] rfl rfl nofun),rfl,%[%[2|0]|20],(λ C s₀ H₀ ex pn=>%[(0),_,(show List.Nodup (["bounds", "terms", "goal", "case"]:List Str) from by decide +kernel),rfl,(Or.inl rfl),%[0|7]|17]),(λ C s₀ H₀ ex pn=>(@aH _)),(λ C s₀ H₀ ex pn=>%[aB,%[0|0],%[0|2],(λ _ _=>rfl)|11]),(by intros;rfl)|21]|13]|12],(@ao _)|16],%[%[(@dN _ _ _)|13]|12]|9]|9],?_⟩;rw [show start ["terms", "goal", "case"] [.ref p,.int g,.ref q]=[some (.ref p),some (.int g),some (.ref q)] from rfl];clear G_least_sum G_greatest_sum;have h17:cs.length<=17:=by rw [hc.len];exact ht.len
  unfold qO at k;have hq0:=hq;obtain⟨ys,hqy,al⟩:=hq0;exists k;exists al;ac_rfl;rw [eI];refine⟨zs,cs,hp,hq,ht,hc,λ H1 e1=>?_⟩
  by_cases h1:dW zs cs=g
  ·rw [Kx h1] at k;have hq1:=e1.at hqy;have wk:=fV (K:=K) (R:=axP) (λ _ _ _ _ h e=>h.ext e) hq1 ((al ()).imp λ _ _ t=>axP.ext t e1);ac_rfl;refine aP cs (λ _=>true) (λ b=>.int b.1) axP wk.1 wk.2 (au %[0|8]) ?_ ?_
   ·intro D b x H' N1 N0 hb hD e ⟨q',hx,hq'⟩ k1 _;subst hx;have k1':=k1 rfl H' (Ext.refl _);clear k1 k wk;simp! only [↓aL,↓aI]
   intro D H2 hD e2 h2;rw [fT] at h2;have k':=k () (.ref D) H2 (e1.trans e2) ⟨D,rfl,by rw [h2,Lh];rfl⟩;clear k wk h2;ac_rfl
  rw [Ks h1] at k;ac_rfl;rw [gY];refine⟨zs,cs,bO hp e1,ay hq e1,ht,hc,λ H2 e2=>?_⟩;have e02:=e1.trans e2
  by_cases h2:gy zs cs=g
  ·rw [Kx h2] at k;have hq1:=e02.at hqy;have wk:=fV (K:=K) (R:=axP) (λ _ _ _ _ h e=>h.ext e) hq1 ((al ()).imp λ _ _ t=>axP.ext t e02);ac_rfl;refine aP cs (λ _=>true) (λ b=>.int b.2) axP wk.1 wk.2 (au %[0|8]) ?_ ?_
   ·intro D b x H' N1 N0 hb hD e ⟨q',hx,hq'⟩ k1 _;subst hx;have k1':=k1 rfl H' (Ext.refl _);clear k1 k wk;simp! only [↓aL,↓aI]
   intro D H3 hD e3 h3;rw [fT] at h3;have k':=k () (.ref D) H3 (e02.trans e3) ⟨D,rfl,by rw [h3,Lh];rfl⟩;clear k wk h3;ac_rfl
  ·rw [Ks h2] at k;have k':=k () .non H2 e02 rfl;clear k;ac_rfl
abbrev jS  (i:Int) (b:Addr) (al:Int) (bg:Int) (H:Hp) (Q:VK) (E:XK):Prop:=∃ c:Int × Int,H b=some (.tup [.int c.1,.int c.2])/\1<=i/\i<=2000000000000000000/\∀ (r:Addr) (H':Hp),H r=none->Ext H H'->H' r=some (.tup [.int (nL i c al bg).1,.int (nL i c al bg).2])->Q (.ref r) H'
def kF  : Sp:=λ vs H Q E=>∃ (i:Int) (b:Addr) (al:Int) (bg:Int),vs=[.int i,.ref b,.int al,.int bg]/\(jS  i b al bg H Q E)
theorem sG  (i:Int) (b:Addr) (al:Int) (bg:Int) (H:Hp) (Q:VK) (E:XK):kF  [.int i,.ref b,.int al,.int bg] H Q E=(jS  i b al bg H Q E):=xv (f:=λ (i:Int) (b:Addr) (al:Int) (bg:Int)=>[.int i,.ref b,.int al,.int bg]) (λ _ _ _ _ _ _ _ _ h=>by cases h;exact⟨rfl,rfl,rfl,rfl⟩) i b al bg
theorem rT  {vs:List V}{H:Hp}{Q:VK}{E:XK}(h:kF  vs H Q E):vs.length=4:=xw h λ _ _ _ _=>rfl
theorem oR(T:Tx K mg t):bq P w K mg base CX0 1 t.a_narrowed t.d_narrowed ["times", "bounds", "above_least", "below_greatest"] kF:=by
 refine T.F_narrowed.ok sL (λ vs H Q E h=>rT h) (λ c A o s H vs Q E hr h=>?_)
 ·obtain⟨i,b,al,bg,rfl,c,hb,i1,i2,k⟩:=h;refine⟨_,%[%[%[%[%[max,(dm rfl),%[%[aB,%[1|0],%[0|2],(λ _ _=>rfl)|11],%[%[aF,%[aB,%[1|0],%[0|2],(λ _ _=>rfl)|11],%[kZ,%[3|0],%[0|0]|10]|10]|1]|1]|6],%[%[min,(ei rfl),%[%[aB,%[1|0],%[0|2],(λ _ _=>rfl)|11],%[%[aJ,%[aB,%[1|0],%[0|2],(λ _ _=>rfl)|11],%[kZ,%[2|0],%[0|0]|10]|10]|1]|1]|6]|1]|1]|18]|13]|12],?_⟩;rw [show start ["times", "bounds", "above_least", "below_greatest"] [.int i,.ref b,.int al,.int bg]=[some (.int i),some (.ref b),some (.int al),some (.int bg)] from rfl];have d1:xN al i:=⟨by omega,by omega⟩;have d2:xN bg i:=⟨by omega,by omega⟩;unfold nL at k;exists k;ac_rfl;intro r H1 hr e1 h1;rw [Int.fdiv_eq_ediv_of_nonneg _ %[0|8],Int.fdiv_eq_ediv_of_nonneg _ %[0|8]] at h1;exact k () r H1 hr e1 h1
def xO(H:Hp):Option (Nat × Int × Int)->V->Prop
 | none,v=>v=.non
 | some q,v=>∃ r kp,v=.ref r/\H r=some (.tup [.int (q.1:Int),.ref kp])/\H kp=some (.tup [.int q.2.1,.int q.2.2])
theorem xO.ext{H H':Hp}{o:Option (Nat × Int × Int)}{v:V}(h:xO H o v)(e:Ext H H'):xO H' o v:=by
 cases o with
 | none=>exact h
 | some q=>
  obtain⟨r,kp,h1,h2,h3⟩:=h;exact⟨r,kp,h1,e.at h2,e.at h3⟩
theorem xq(zs:List Tm3)(cs:Bx)(al bg:Int)(i:Nat):dU zs cs al bg (i+1)=if (cs.getD i default).1 < (cs.getD i default).2 then (match dU zs cs al bg i with|none=>some (i,nL (zs.getD i default).1 (cs.getD i default) al bg)|some q=>if (nL (zs.getD i default).1 (cs.getD i default) al bg).2 - (nL (zs.getD i default).1 (cs.getD i default) al bg).1 < q.2.2 - q.2.1 then some (i,nL (zs.getD i default).1 (cs.getD i default) al bg) else some q) else dU zs cs al bg i:=rfl
abbrev qy  (p:Addr) (g:Int) (q:Addr) (H:Hp) (Q:VK) (E:XK):Prop:=∃ (zs:List Tm3) (cs:Bx) (b:Nat × Int × Int),gL H p zs/\cx H q cs/\cX zs/\dR zs cs/\dU zs cs (g - dW zs cs) (gy zs cs - g) zs.length=some b/\b.1 < zs.length/\∀ (r:Addr) (H':Hp),Ext H H'->H' r=some (.tup [.str "part",.int (b.1:Int),.int (bM cs b)])->Q (.ref r) H'
def tT  : Sp:=λ vs H Q E=>∃ (p:Addr) (g:Int) (q:Addr),vs=[.ref p,.int g,.ref q]/\(qy  p g q H Q E)
theorem zG  (p:Addr) (g:Int) (q:Addr) (H:Hp) (Q:VK) (E:XK):tT  [.ref p,.int g,.ref q] H Q E=(qy  p g q H Q E):=pD (f:=λ (p:Addr) (g:Int) (q:Addr)=>[.ref p,.int g,.ref q]) (λ _ _ _ _ _ _ h=>by cases h;exact⟨rfl,rfl,rfl⟩) p g q
theorem yH  {vs:List V}{H:Hp}{Q:VK}{E:XK}(h:tT  vs H Q E):vs.length=3:=pE h λ _ _ _=>rfl
theorem rf(T:Tx K mg t):bq P w K mg base CX0 4 t.a_parting t.d_parting ["terms", "goal", "case"] tT:=by
 have G_least_sum:=%[cS|47];have G_greatest_sum:=%[bZ|47];have G_narrowed:=%[oR|47];refine T.F_parting.ok bC (λ vs H Q E h=>yH h) (λ c A o s H vs Q E hr h=>?_)
 ·obtain⟨p,g,q,rfl,zs,cs,b,hp,hq,ht,hc,hb,hbl,k⟩:=h;refine⟨_,%[%[3,bC,%[aF,%[1|0],%[least_sum,%[%[0|0],%[%[2|0]|1]|1]|3]|10]|4],%[%[4,bC,%[aF,%[greatest_sum,%[%[0|0],%[%[2|0]|1]|1]|3],%[1|0]|10]|4],%[%[5,bC,(@dN _ _ _)|4],%[%[KP,rfl,(@Bo _ _ _ _ _ _ _ _ ∅ T.z_enumerate %[%[2|0]|1] ∅),(%[(2),rfl,%[%[6,bC|5],%[%[7,bC|5],(@aA _),∅|15],∅|15],∅,∅|22].mono λ _ _ _ _ h=>aU h),%[%[%[cI,%[aB,%[7|0],%[0|2],(λ _ _=>rfl)|11],%[aB,%[7|0],%[0|2],(λ _ _=>rfl)|11],(af _)|14],%[%[8,bC,%[narrowed,%[%[aB,%[aB,%[0|0],%[6|0],(λ _ _=>rfl)|11],%[0|2],(λ _ _=>rfl)|11],%[%[7|0],%[%[3|0],%[%[4|0]|1]|1]|1]|1]|3]|4],%[%[(PW.pt %[%[uk,%[5|0],(@dN _ _ _),(af _)|14],%[%[cI,%[aF,%[aB,%[8|0],%[0|2],(λ _ _=>rfl)|11],%[aB,%[8|0],%[0|2],(λ _ _=>rfl)|11]|10],%[aF,%[aB,%[aB,%[5|0],%[0|2],(λ _ _=>rfl)|11],%[0|2],(λ _ _=>rfl)|11],%[aB,%[aB,%[5|0],%[0|2],(λ _ _=>rfl)|11],%[0|2],(λ _ _=>rfl)|11]|10],(af _)|14]|30]|25]),%[%[5,bC,%[%[%[6|0],%[%[8|0]|1]|1]|18]|4]|12],(@ao _)|16]|12]|9],(@ao _)|16]|12],(by intros;rfl)|29],%[%[6,bC,%[aB,%[5|0],%[0|2],(λ _ _=>rfl)|11]|4],%[%[8,bC,%[aB,%[5|0],%[0|2],(λ _ _=>rfl)|11]|4],%[%[%[cI,%[aB,%[8|0],%[0|2],(λ _ _=>rfl)|11],%[aB,%[aB,%[2|0],%[6|0],(λ _ _=>rfl)|11],%[0|2],(λ _ _=>rfl)|11],(af _)|14],%[%[%[%[(@bG _ _ _ _),%[%[6|0],%[%[aB,%[8|0],%[0|2],(λ _ _=>rfl)|11]|1]|1]|1]|18]|13]|12],(@ao _)|16],%[%[%[dz,%[aB,%[8|0],%[0|2],(λ _ _=>rfl)|11],%[aB,%[aB,%[2|0],%[6|0],(λ _ _=>rfl)|11],%[0|2],(λ _ _=>rfl)|11],(af _)|14],%[%[%[%[(@bG _ _ _ _),%[%[6|0],%[%[aF,%[aB,%[8|0],%[0|2],(λ _ _=>rfl)|11],%[0|2]|10]|1]|1]|1]|18]|13]|12],(@ao _)|16],%[%[%[%[(@bG _ _ _ _),%[%[6|0],%[%[aB,%[aB,%[2|0],%[6|0],(λ _ _=>rfl)|11],%[0|2],(λ _ _=>rfl)|11]|1]|1]|1]|18]|13]|12]|9]|9]|9]|9]|9]|9]|9]|9],?_⟩;rw [show start ["terms", "goal", "case", "above_least", "below_greatest", "best", "k", "bounds", "kept"] [.ref p,.int g,.ref q]=[some (.ref p),some (.int g),some (.ref q),none,none,none,none,none,none] from rfl];clear G_least_sum G_greatest_sum G_narrowed;have h17:=ht.len;have hcl:=hc.len;obtain⟨xs,hpx,alp⟩:=hp;obtain⟨ys,hqy,alq⟩:=hq;have hp:gL H p zs:=⟨xs,hpx,alp⟩;have hq:cx H q cs:=⟨ys,hqy,alq⟩;have hyl:ys.length=cs.length:=alq.1
  have tl:∀ i,i < zs.length->1<=(zs.getD i default).1/\(zs.getD i default).1<=2000000000000000000:=λ i hi=>by
   rw [Ky,Kk hi];exact(ht.all _ (Lu hi)).1
  exists k;exists tl;exists alp;exists alq;exists hyl;exists hcl;exists hb;ac_rfl;rw [eI];refine⟨zs,cs,hp,hq,ht,hc,λ H1 e1=>?_⟩;ac_rfl;rw [gY];refine⟨zs,cs,bO hp e1,ay hq e1,ht,hc,λ H2 e2=>?_⟩;have e02:=e1.trans e2;have hq2:=e02.at hqy;clear e1 e2;ac_rfl;generalize g - dW zs cs=al at *;generalize gy zs cs - g=bg at *;refine zl (xs:=ys) (λ i σ H'=>∃ (vb:V) (v6 v7 v8:Option V),σ=[some (.ref p),some (.int g),some (.ref q),some (.int al),some (.int bg),some vb,v6,v7,v8]/\Ext H H'/\xO H' (dU zs cs al bg i) vb) ⟨.non,none,none,none,rfl,e02,rfl⟩ (λ i σ H' ⟨_,_,_,_,_,e,_⟩=>e.at hqy) ?_ ?_
  ·rintro i u pp _ H3 H4 hi ⟨vb,v6,v7,v8,rfl,e3,bv⟩ hpp e4 h4;have hic:i < cs.length:=by have:=(Km.mp hi).1;have:=hyl ();omega
   have hiz:i < zs.length:=by have:=hcl ();omega
   obtain⟨c1,c2,hu⟩:=eU (alq ()) hic;rw [K9,ff hi] at c2;cases c2;obtain⟨z1,z2,hz⟩:=lZ (alp ()) hiz;rw [K9] at z2;have e04:=e3.trans e4;have hu4:=e04.at hu;have hz4:=e04.at hz;have hp4:=e04.at hpx;have tli:=tl () i hiz;have bv4:=λ (_:Unit)=>bv.ext e4;have bs:=xq zs cs al bg i;generalize dU zs cs al bg (i+1)=o1 at *;generalize dU zs cs al bg i=o0 at *;generalize zs.getD i default=zi at *;generalize cs.getD i default=ci at *;exists bs;clear bv hi hpp hu hz k hb hq2
   by_cases hlt:ci.1 < ci.2
   ·have bs':=bs ();rw [Kx hlt] at bs';exists bs';clear bs;simp! only [↓aG];rw [sG];refine⟨ci,hu4,tli.1,tli.2,λ r5 H5 hr5 e5 h5=>?_⟩;have e05:=e04.trans e5;generalize nL zi.1 ci al bg=nr at *;clear hr5
    cases o0 with
    | none=>
     have hvb:vb=.non:=bv4 ();subst hvb;have bs2:o1=some (i,nr):=bs' ();clear bs' bv4;ac_rfl;intro r6 H6 _ e6 h6;refine⟨_,_,_,_,rfl,e05.trans e6,?_⟩;exact⟨r6,r5,rfl,h6,e6.at h5⟩
    | some q0=>
     obtain⟨rb,kb,hvb,hrb,hkb⟩:=bv4 ();subst hvb;have hrb5:=e5.at hrb;have hkb5:=e5.at hkb;have bs2:o1=if nr.2 - nr.1 < q0.2.2 - q0.2.1 then some (i,nr) else some q0:=bs' ()
     exists bs2;clear bs' bv4 hrb hkb
     by_cases hl2:nr.2 - nr.1 < q0.2.2 - q0.2.1
     ·have bs3:=bs2 ();rw [Kx hl2] at bs3;exists bs3;clear bs2;ac_rfl;intro r6 H6 _ e6 h6;refine⟨_,_,_,_,rfl,e05.trans e6,?_⟩;rw [bs3 ()];exact⟨r6,r5,rfl,h6,e6.at h5⟩
     ·have bs3:=bs2 ();rw [Ks hl2] at bs3;exists bs3;clear bs2;ac_rfl;refine⟨_,_,_,_,rfl,e05,?_⟩;rw [bs3 ()];exact⟨rb,kb,rfl,hrb5,hkb5⟩
   ·have bs':=bs ();rw [Ks hlt] at bs';exists bs';clear bs;simp! only [↓aG];exact⟨_,_,_,_,rfl,e04,by rw [bs' ()];exact bv4 ()⟩
  ·rintro _ H3 ⟨vb,v6,v7,v8,rfl,e3,bv⟩;rw [hyl (),hcl (),hb ()] at bv;obtain⟨rb,kb,hvb,hrb,hkb⟩:=bv;subst hvb;have hbc:b.1 < cs.length:=by have:=hcl ();omega
   obtain⟨c1,c2,hu⟩:=eU (alq ()) hbc;rw [K9] at c2;have hu3:=e3.at hu;have hq3:=e3.at hqy;have hpk:∀ x,(if b.2.2 < (cs.getD b.1 default).2 then b.2.2 else if (cs.getD b.1 default).1 < b.2.1 then b.2.1 - 1 else (cs.getD b.1 default).1)=x->bM cs b=x:=λ x h=>h;generalize bM cs b=pk at *;generalize cs.getD b.1 default=cb at *;exists hpk;clear hu hq2
   by_cases h1:b.2.2 < cb.2
   ·ac_rfl;intro r4 H4 _ e4 h4;exact k () r4 H4 (e3.trans e4) (by rw [h4,hpk () b.2.2 (by rw [Kx h1])])
   by_cases h2:cb.1 < b.2.1
   ·ac_rfl;intro r4 H4 _ e4 h4;exact k () r4 H4 (e3.trans e4) (by rw [h4,hpk () (b.2.1 - 1) (by rw [Ks h1,Kx h2])])
   ·ac_rfl;intro r4 H4 _ e4 h4;exact k () r4 H4 (e3.trans e4) (by rw [h4,hpk () cb.1 (by rw [Ks h1,Ks h2])])
theorem zA(xs:List V)(z:Int)(h:0<=z):js xs (some z) none=xs.drop z.toNat:=by
 unfold js;obtain⟨n,rfl⟩:=Int.eq_ofNat_of_zero_le h;rw [HT.sIx_none,HT.sIx_nat]
 show _=xs.drop n
 rcases Nb n xs.length with q|q
 ·rw [MM q];exact Lp (by rw [Mc];omega)
 ·rw [MB q,L5 (Kq _),L5 q,List.take_nil]
theorem Gz(xs:List V)(z:Int)(h:0<=z):js xs none (some z)=xs.take z.toNat:=by
 unfold js;obtain⟨n,rfl⟩:=Int.eq_ofNat_of_zero_le h;rw [HT.sIx_none,HT.sIx_nat,List.drop_zero,Nat.sub_zero]
 show xs.take (min n xs.length)=xs.take n
 rcases Nb n xs.length with q|q
 ·rw [MM q]
 ·rw [MB q,Lx,Lp q]
def DL(kvs:List (Key × V))(L:Int->Int):Prop:=∀ t,(dw kvs (.inl t)).getD (.int 0)=.int (L t)
theorem DL.nil:DL [] (λ _=>0):=λ _=>rfl
theorem DL.put{kvs:List (Key × V)}{L:Int->Int}(h:DL kvs L)(a v:Int):DL (dg kvs (.inl a) (.int v)) (qK L a v):=λ t=>by
 rw [ky];unfold qK
 by_cases e:t=a
 ·rw [Kx e,Kx (by rw [e])];rfl
 ·rw [Ks e,Ks (λ q=>e (by cases q;rfl))];exact h t
theorem mB{z:Tm3}{x:Int}:∀ {zs:List Tm3}{xs:List Int},xs.length=zs.length->(∀ y∈zs,¬ y.1=z.1)->cu (zs++[z]) (xs++[x])=qK (cu zs xs) z.1 (x - z.2.1)
 | [],[],_,_=>funext λ t=>by
  show (if z.1=t then x - z.2.1 else 0)=if t=z.1 then x - z.2.1 else 0
  by_cases e:z.1=t
  ·rw [Kx e,Kx e.symm]
  ·rw [Ks e,Ks (λ q=>e q.symm)]
 | [],_::_,h,_=>by simp at h
 | _::_,[],h,_=>by simp at h
 | y::zs,u::xs,h,hn=>funext λ t=>by
  have ih:=congrFun (mB (z:=z) (x:=x) (zs:=zs) (xs:=xs) (by simpa using h) λ w hw=>hn w (Ko _ hw)) t;have hy:=hn y Kp
  show (if y.1=t then u - y.2.1 else cu (zs++[z]) (xs++[x]) t)=if t=z.1 then x - z.2.1 else if y.1=t then u - y.2.1 else cu zs xs t
  rw [ih];unfold qK
  by_cases e:t=z.1
  ·rw [Kx e,Kx e,Ks (λ q=>hy (q.trans e))]
  ·rw [Ks e,Ks e]
theorem p9{κ:Type}[DecidableEq κ](kvs:List (κ × V))(k:κ)(v:V):(dg kvs k v).length<=kvs.length+1:=by
 unfold dg;split
 ·rw [Kr];omega
 ·rw [Ku,KW];exact Kq _
abbrev nc(C:Addr)(u:Addr)(v:Addr)(p:Addr)(q:Addr)(H:Hp)(Q:VK)(E:XK):Prop:=∃ (r1 r2 f1 f2:Int) (A B:List (Int × Int)) (zs:List Tm3) (xs:List Int),bc C H u r1 f1 A/\bc C H v r2 f2 B/\A.length<=8/\B.length<=8/\gL H p zs/\zs.length<=17/\(zs.map λ z=>z.1).Nodup/\H q=some (.lst (xs.map V.int))/\xs.length=zs.length/\∀ (r a1 a2:Addr) (H':Hp),Ext H H'->H' r=some (.tup [.str "shared",.ref a1,.ref a2])->H' a1=some (.tup (((eW (cu zs xs) (ai A B)).take A.length).map V.int))->H' a2=some (.tup (((eW (cu zs xs) (ai A B)).drop A.length).map V.int))->Q (.ref r) H'
def ow(C:Addr):Sp:=λ vs H Q E=>∃ (u:Addr) (v:Addr) (p:Addr) (q:Addr),vs=[.ref u,.ref v,.ref p,.ref q]/\(nc C u v p q H Q E)
theorem xl(C:Addr)(u:Addr)(v:Addr)(p:Addr)(q:Addr)(H:Hp)(Q:VK)(E:XK):ow C [.ref u,.ref v,.ref p,.ref q] H Q E=(nc C u v p q H Q E):=xv (f:=λ (u:Addr) (v:Addr) (p:Addr) (q:Addr)=>[.ref u,.ref v,.ref p,.ref q]) (λ _ _ _ _ _ _ _ _ h=>by cases h;exact⟨rfl,rfl,rfl,rfl⟩) u v p q
theorem wK(C:Addr){vs:List V}{H:Hp}{Q:VK}{E:XK}(h:ow C vs H Q E):vs.length=4:=xw h λ _ _ _ _=>rfl
theorem eR(T:Tx K mg t):bq P w K mg base CX0 2 t.a_places_by_numbers t.d_places_by_numbers ["one", "other", "terms", "numbers"] (ow t.a_View):=by
 have G_pulls:=%[qe|47];refine T.F_places_by_numbers.ok aw (λ vs H Q E h=>wK _ h) (λ cdv A' outer s H vs Q E hr h=>?_)
 ·obtain⟨u,v,p,q,rfl,r1,r2,f1,f2,A,B,zs,xs,vu,vv,hA,hB,⟨ts,hp,al⟩,h17,hnd,hq,hxl,k⟩:=h;obtain⟨dx,lx,hu,⟨ax,hax,alA⟩⟩:=vu.ob;have c1:=T.cl_View;have c3:=T.na_View_axes;have g1:=dr r1 f1 lx;refine⟨_,%[%[4,aw,(@gQ _ _)|4],%[%[PassesOwn.never,rfl,%[∅,T.z_zip,%[%[2|0],%[%[3|0]|1]|1],∅,∅|39],(%[(2),rfl,%[%[5,aw|5],%[%[6,aw|5],(@aA _),∅|15],∅|15],∅,∅|22].mono λ _ _ _ _ h=>aU h),%[%[(cJ hr.units),%[4|0],%[aB,%[5|0],%[0|2],(λ _ _=>rfl)|11],%[aF,%[6|0],%[aB,%[5|0],%[0|2],(λ _ _=>rfl)|11]|10],rfl|42]|12],(by intros;rfl)|29],%[%[7,aw,%[(@cc _)|24]|4],%[%[PassesOwn.never,rfl,%[%[pulls,%[%[0|0],%[%[1|0]|1]|1]|3]|20],(%[(2),rfl,%[%[8,aw|5],%[%[9,aw|5],(@aA _),∅|15],∅|15],∅,∅|22].mono λ _ _ _ _ h=>aU h),%[%[10,aw,%[min,(ei rfl),%[%[aF,%[9|0],%[0|2]|10],%[%[(cJ hr.units),%[4|0],%[abs,bT,%[%[8|0]|1]|6],%[0|2],⟨by rfl,by rfl,by rfl,by rfl⟩|43]|1]|1]|6]|4],%[%[(cJ hr.units),%[4|0],%[abs,bT,%[%[8|0]|1]|6],%[aF,%[(cJ hr.units),%[4|0],%[abs,bT,%[%[8|0]|1]|6],%[0|2],⟨by rfl,by rfl,by rfl,by rfl⟩|43],%[10|0]|10],rfl|42],%[(@eY _ _ _ _ %[PySem.F.plainAttrs_list,PySem.F.slot_list_append,PySem.F.type_list_append,fK,%[7|0],%[(@kX _ _ _ _ _ _ _ _ %[AE,%[8|0],%[0|2],(af _)|14] %[10|0] %[aF,%[aF,%[9|0],%[0|2]|10],%[10|0]|10])|1],∅,∅,∅,∅,∅|45] ∅)|12]|9]|9],(by intros;rfl)|29],%[%[11,aw,%[len,az,%[%[%[0|0],rfl|36]|1]|6]|4],%[%[%[%[(@bG _ _ _ _),%[%[fA,∅,T.z_tuple,nofun,%[%[Dl,%[7|0],(@fb _),(@eZ _ _ _ %[11|0])|41]|1],⋯,⋯,∅,∅|40],%[%[fA,∅,T.z_tuple,nofun,%[%[Dl,%[7|0],(@eZ _ _ _ %[11|0]),(@fb _)|41]|1],⋯,⋯,∅,∅|40]|1]|1]|1]|18]|13]|12]|9]|9]|9]|9]|9],?_⟩;rw [show start ["one", "other", "terms", "numbers", "left", "term", "number", "place", "pace", "size", "taken", "many"] [.ref u,.ref v,.ref p,.ref q]=[some (.ref u),some (.ref v),some (.ref p),some (.ref q),none,none,none,none,none,none,none,none] from rfl];clear G_pulls;have haxl:ax.length=A.length:=by rw [alA.1];unfold axL;rw [length_map]
  have htl:ts.length=zs.length:=al.1;exists k;exists hnd;exists al;exists haxl;exists htl;exists hxl;ac_rfl;intro d H1 hd1 e1 h1;have hp1:=e1.at hp;have hq1:=e1.at hq;have hd0:=hd1;clear hd1;ac_rfl;refine uX (ka:=false) (kb:=false) (xs:=ts) (ys:=xs.map V.int) (λ i σ H'=>∃ (kvs:List (Key × V)) (v5 v6:Option V),σ=[some (.ref u),some (.ref v),some (.ref p),some (.ref q),some (.ref d),v5,v6,none,none,none,none,none]/\Ext H H'/\H' d=some (.dK kvs)/\kvs.length<=i/\DL kvs (cu (zs.take i) (xs.take i))) ⟨[],none,none,rfl,e1,h1,Kq _,DL.nil⟩ (λ i σ H' ⟨_,_,_,_,e,_⟩=>⟨e.at hp,e.at hq⟩) ?_ ?_
  ·rintro i x y w' _ H2 H3 hx hy ⟨kvs,v5,v6,rfl,e2,h2,hkl,dl⟩ hw e3 h3;have hiz:i < zs.length:=by have:=(Km.mp hx).1;have:=htl ();omega
   have hzi:zs[i]? = some zs[i]:=Kk hiz;obtain⟨tq,rfl,htq⟩:=(al ()).2 i zs[i] x hzi hx;rw [KH] at hy;obtain⟨n,hn,rfl⟩:=KA.mp hy;have hz1:zs.take (i+1)=zs.take i++[zs[i]]:=by rw [LB,hzi];rfl
   have hx1:xs.take (i+1)=xs.take i++[n]:=by rw [LB,hn];rfl
   have hnew:∀ y∈zs.take i,¬ y.1=zs[i].1:=λ y hy e=>by
    obtain⟨j,hj⟩:=L9.mp hy;have hjl:j < i:=by have:=(Km.mp hj).1;rw [Lm] at this;omega
    rw [List.getElem?_take_of_lt hjl] at hj;have hne:=List.pairwise_iff_getElem.mp (hnd ()) j i (by rw [Kr];omega) (by rw [Kr];omega) hjl;rw [List.getElem_map,List.getElem_map] at hne;have hj':zs[j]' %[0|8]=y:=by have:=Km.mp hj;exact this.2
    exact hne (by rw [hj'];exact e)
   have hls:=mB (z:=zs[i]) (x:=n) (zs:=zs.take i) (xs:=xs.take i) (by rw [Lm,Lm,hxl ()]) hnew;rw [←hz1,←hx1] at hls;have dl':=dl.put zs[i].1 (n - zs[i].2.1);rw [←hls] at dl';have e03:=e2.trans e3;have ht3:=e03.at htq;have h2_3:=e3.at h2;have hkl':=p9 kvs (Sum.inl zs[i].1:Key) (.int (n - zs[i].2.1));have lk:kvs.length < sizeLine:=ib %[0|8];generalize zs[i]=z at *;generalize cu (zs.take (i+1)) (xs.take (i+1))=L1 at *;exists dl';clear hx hy hzi hn hz1 hx1 hnew hls dl htq h2 k e2 e3 hp1 hq1 h1 e1;simp! only [↓aG];refine gz (k:=.inl z.1) h2_3 lk ?_;exact⟨_,_,_,rfl,e03.put hd0,aj,by omega,dl' ()⟩
  ·rintro _ H2 ⟨kvs,v5,v6,rfl,e2,h2,hkl,dl⟩;have hmn:min ts.length (xs.map V.int).length=zs.length:=by rw [Kr,htl (),hxl ()];exact Nat.min_self _
   rw [hmn,take_length,take_of_length_le (by rw [hxl ()];exact Nat.le_refl _)] at dl;rw [hmn] at hkl;have hPl:(ai A B).length=A.length+B.length:=by unfold ai;rw [length_append,length_map,length_map]
   clear hp1 hq1 h1 e1 hmn hnd al;ac_rfl;intro pl H3 hpl e3 h3;have e03:=e2.trans e3;have h2_3:=e3.at h2;have hpl0:H pl=none:=e2.free hpl;have ndp:d ≠ pl:=λ z=>by rw [z,hpl] at h2;cases h2
   clear hpl h2 e3;ac_rfl;rw [mK];refine⟨r1,r2,f1,f2,A,B,vu.ext e03,vv.ext e03,hA,hB,λ r H4 hr4 e4 t4=>?_⟩;obtain⟨ys,hy4,aly⟩:=t4;have e04:=e03.trans e4;have h2_4:=e4.at h2_3;have h3_4:=e4.at h3;have nrd:r ≠ d:=λ z=>by rw [z,h2_3] at hr4;cases hr4
   have nrp:r ≠ pl:=λ z=>by rw [z,h3] at hr4;cases hr4
   have hyl:ys.length=(ai A B).length:=aly.1;generalize ai A B=P' at *;generalize cu zs xs=L0 at *;exists aly;exists hyl;exists hPl;exists dl;clear hr4 h2_3 h3 e4;ac_rfl;refine cz (xs:=ys) (λ i σ H'=>∃ (kvs:List (Key × V)) (L:Int->Int) (ps:List Int) (v8 v9 v10:Option V),σ=[some (.ref u),some (.ref v),some (.ref p),some (.ref q),some (.ref d),v5,v6,some (.ref pl),v8,v9,v10,none]/\Ext H H'/\(∀ b o,b ≠ d->b ≠ pl->H4 b=some o->H' b=some o)/\H' d=some (.dK kvs)/\H' pl=some (.lst (ps.map V.int))/\kvs.length<=17+i/\ps.length=i/\DL kvs L/\eW L0 P'=ps++eW L (P'.drop i)) ⟨kvs,L0,[],none,none,none,rfl,e04,λ _ _ _ _ h=>h,h2_4,h3_4,by omega,rfl,dl (),rfl⟩ (λ i σ H' _ ⟨_,_,_,_,_,_,_,_,kp,_⟩=>kp r _ nrd nrp hy4) ?_ ?_
   ·rintro i y _ H5 hi ⟨kvs,L,ps,v8,v9,v10,rfl,e5,kp,h5d,h5p,hkl5,hps,dl5,hfill⟩;have hiP:i < P'.length:=by have:=(Km.mp hi).1;have:=hyl ();omega
    obtain⟨tq,rfl,htq⟩:=(aly ()).2 i P'[i] y (Kk hiP) hi;have ht5:=kp tq _ (λ e=>by rw [e,h2_4] at htq;cases htq) (λ e=>by rw [e,h3_4] at htq;cases htq) htq;rw [Mp hiP] at hfill
    have hf2:eW L0 P'=(ps++[if 0<=P'[i].1 then tkF P'[i] L else P'[i].2 - 1 - tkF P'[i] L])++eW (qK L (ar P'[i].1) (L (ar P'[i].1) - tkF P'[i] L)) (P'.drop (i+1)):=by
     rw [hfill,Me];rfl
    have hP16:=hPl ();have b1:=dl5 (ar P'[i].1);have dl6:=dl5.put (ar P'[i].1) (L (ar P'[i].1) - tkF P'[i] L);have hkl':=p9 kvs (Sum.inl (ar P'[i].1):Key) (.int (L (ar P'[i].1) - tkF P'[i] L));have lk:kvs.length < sizeLine:=ib %[0|8];have lp:ps.length < sizeLine:=ib %[0|8]
    have habs:(if P'[i].1 < 0 then -P'[i].1 else P'[i].1)=ar P'[i].1:=by unfold ar;split<;>omega
    have htk:(if L (ar P'[i].1) < P'[i].2 - 1 then L (ar P'[i].1) else P'[i].2 - 1)=tkF P'[i] L:=rfl;generalize P'[i]=z at *;exists hf2;exists hps;exists dl6;clear hfill dl5 hi htq k hy4 h2_4 h3_4 e04 e03 e2 dl;simp! only [↓aG];refine eX h5d ?_;ac_rfl;refine hU (k:=.inl (ar z.1)) h5d ?_;rw [b1];ac_rfl;refine eX h5d ?_;ac_rfl;refine hU (k:=.inl (ar z.1)) h5d ?_;rw [b1];ac_rfl;refine gz (k:=.inl (ar z.1)) h5d lk ?_;have h6d:upd H5 d (.dK (dg kvs (.inl (ar z.1)) (.int (L (ar z.1) - tkF z L)))) d=some (.dK (dg kvs (.inl (ar z.1)) (.int (L (ar z.1) - tkF z L)))):=aj;have h6p:upd H5 d (.dK (dg kvs (.inl (ar z.1)) (.int (L (ar z.1) - tkF z L)))) pl=some (.lst (ps.map V.int)):=by rw [ak (K6 ndp)];exact h5p
    have e06:Ext H (upd H5 d (.dK (dg kvs (.inl (ar z.1)) (.int (L (ar z.1) - tkF z L))))):=e5.put hd0;have kp6:∀ b o,b ≠ d->b ≠ pl->H4 b=some o->upd H5 d (.dK (dg kvs (.inl (ar z.1)) (.int (L (ar z.1) - tkF z L)))) b=some o:=λ b o x1 x2 h=>by rw [ak x1];exact kp b o x1 x2 h
    generalize upd H5 d (.dK (dg kvs (.inl (ar z.1)) (.int (L (ar z.1) - tkF z L))))=H6 at *;exists kp6;clear h5d h5p kp e5 ht5
    by_cases hz0:0<=z.1
    ·have hf3:=hf2 ();rw [Kx hz0] at hf3;exists hf3;clear hf2;ac_rfl;exact⟨_,_,ps++[tkF z L],_,_,_,rfl,e06.put hpl0,λ b o x1 x2 h=>by rw [ak x2];exact kp6 () b o x1 x2 h,by rw [ak ndp];exact h6d,by rw [LQ];rfl,by omega,by rw [Ku,KW,hps ()],dl6 (),hf3 ()⟩
    ·have hf3:=hf2 ();rw [Ks hz0] at hf3;exists hf3;clear hf2;ac_rfl;exact⟨_,_,ps++[z.2 - 1 - tkF z L],_,_,_,rfl,e06.put hpl0,λ b o x1 x2 h=>by rw [ak x2];exact kp6 () b o x1 x2 h,by rw [ak ndp];exact h6d,by rw [LQ];rfl,by omega,by rw [Ku,KW,hps ()],dl6 (),hf3 ()⟩
   ·rintro _ H5 ⟨kvs,L,ps,v8,v9,v10,rfl,e5,kp,h5d,h5p,hkl5,hps,dl5,hfill⟩;rw [hyl (),Nh] at hfill;have hfe:eW L0 P'=ps:=by rw [hfill];show ps++[]=ps;rw [Md]
    rw [hfe] at k;have hu5:=e5.at hu;have hax5:=e5.at hax;have ct:=Gz (ps.map V.int) (A.length:Int) %[0|8];have cf:=zA (ps.map V.int) (A.length:Int) %[0|8];rw [La] at ct cf;have hal:(ax.length:Int)=(A.length:Int):=by rw [haxl ()]
    clear kp h5d hkl5 dl5 hfill hfe aly hy4 h2_4 h3_4;ac_rfl;intro q6 H6 _ e6 h6;clear hu5 hax5;have h5p6:=e6.at h5p;ac_rfl;intro q7 H7 _ e7 h7;have h5p7:=e7.at h5p6;ac_rfl;intro q8 H8 _ e8 h8;have h7_8:=e8.at h7;ac_rfl;intro q9 H9 _ e9 h9;have h7_9:=e9.at h7_8;ac_rfl;intro r10 H10 _ e10 h10;exact k () r10 q7 q9 H10 (e5.trans (e6.trans (e7.trans (e8.trans (e9.trans e10))))) h10 (by rw [e10.at h7_9,List.map_take]) (by rw [e10.at h9,List.map_drop])
theorem kl{n:Nat}(h:n<=100000):n<=sizeLine:=Le h ⋯
theorem Gi{n:Nat}(h:n < 100000):n < sizeLine:=KC h ⋯
def CsV(H:Hp)(cA pA:Addr)(c:Bx)(y:V):Prop:=∃ a,y=.ref a/\a ≠ cA/\a ≠ pA/\cx H a c
def dv(H:Hp)(cA pA:Addr):List Bx->List V->Prop
 | [],cl=>cl=[]
 | c::st,cl=>∃ cl0 y,cl=cl0++[y]/\CsV H cA pA c y/\dv H cA pA st cl0
theorem CsV.ext{H H':Hp}{cA pA:Addr}{c:Bx}{y:V}(h:CsV H cA pA c y)(e:Ext H H'):CsV H' cA pA c y:=by
 obtain⟨a,h1,h2,h3,h4⟩:=h;exact⟨a,h1,h2,h3,ay h4 e⟩
theorem dv.ext{H H':Hp}{cA pA:Addr}(e:Ext H H'):∀ {st:List Bx}{cl:List V},dv H cA pA st cl->dv H' cA pA st cl
 | [],_,h=>h
 | _::_,_,⟨cl0,y,h1,h2,h3⟩=>⟨cl0,y,h1,h2.ext e,dv.ext e h3⟩
theorem CsV.upd{H:Hp}{cA pA b:Addr}{c:Bx}{y:V}{xs:List V}{o:HO}(h:CsV H cA pA c y)(hb:H b=some (.lst xs))(hb2:b=cA\/b=pA):CsV (upd H b o) cA pA c y:=by
 obtain⟨a,h1,h2,h3,ys,h4,al⟩:=h
 have hne:a ≠ b:=λ e=>by
  rcases hb2 with q|q
  ·exact h2 (e.trans q)
  ·exact h3 (e.trans q)
 exact⟨a,h1,h2,h3,ys,by rw [ak hne];exact h4,al.imp λ _ _ t=>axP.upd t hb⟩
theorem dv.upd{H:Hp}{cA pA b:Addr}{xs:List V}{o:HO}(hb:H b=some (.lst xs))(hb2:b=cA\/b=pA):∀ {st:List Bx}{cl:List V},dv H cA pA st cl->dv (upd H b o) cA pA st cl
 | [],_,h=>h
 | _::_,_,⟨cl0,y,h1,h2,h3⟩=>⟨cl0,y,h1,h2.upd hb hb2,dv.upd hb hb2 h3⟩
theorem dv.len{H:Hp}{cA pA:Addr}:∀ {st:List Bx}{cl:List V},dv H cA pA st cl->cl.length=st.length
 | [],_,h=>by have h':_=[]:=h;rw [h'];rfl
 | _::_,_,⟨cl0,y,h1,_,h3⟩=>by rw [h1,Ku,dv.len h3];rfl
theorem vk(ks:List Int)(P:List (Int × Int)):(ag ks P).map (λ z=>z.1)=ks:=by
 unfold ag;rw [map_map];exact List.map_id ks
theorem y7{zs:List Tm3}{c:Bx}{xs:List Int}(h:dR zs c)(hx:InB c xs):InB (zs.map λ z=>z.2) xs:=by
 refine uU hx (by rw [Kr,h.len]) λ i hi=>?_;have hz:i < zs.length:=by rw [←h.len];exact hi
 have:=h.at hz
 have e:(zs.map λ z=>z.2).getD i default=(zs.getD i default).2:=by
  rw [Ky,Ky,KH,Kk hz];rfl
 rw [e];exact⟨this.1,this.2.2⟩
theorem zm{zs:List Tm3}(h:cX zs):dR zs (zs.map λ z=>z.2):=by
 refine dR.of (by rw [Kr]) λ i hi=>?_
 have e:(zs.map λ z=>z.2).getD i default=(zs.getD i default).2:=by
  rw [Ky,Ky,KH,Kk hi];rfl
 have hm:zs.getD i default=zs[i]:=by rw [Ky,Kk hi];rfl
 rw [e,hm];have:=(h.all _ (Lu hi)).2.2.1;exact⟨K3 _,by omega,K3 _⟩
def plF(ks:List Int)(P:List (Int × Int))(xs:List Int):List Int:=eW (cu (ag ks P) xs) P
def NF(ks:List Int)(P:List (Int × Int)):Nat:=(2 * b6 ks (cW P)).toNat
theorem xu.upd{H:Hp}{s:List V}{v:V}{b:Addr}{xs:List V}{o:HO}(h:xu H s v)(hb:H b=some (.lst xs)):xu (upd H b o) s v:=by
 obtain⟨r,h1,h2⟩:=h;exact⟨r,h1,by rw [ak (λ e=>by rw [e,hb] at h2;cases h2)];exact h2⟩
def nN(H:Hp)(pp:List (List V))(ys:List V):Prop:=Al (λ s y=>xu H s y) pp ys
theorem nN.ext{H H':Hp}{pp:List (List V)}{ys:List V}(h:nN H pp ys)(e:Ext H H'):nN H' pp ys:=Al.imp h λ _ _ t=>xu.ext t e
theorem nN.upd{H:Hp}{pp:List (List V)}{ys:List V}{b:Addr}{xs:List V}{o:HO}(h:nN H pp ys)(hb:H b=some (.lst xs)):nN (upd H b o) pp ys:=Al.imp h λ _ _ t=>xu.upd t hb
theorem nN.snoc{H:Hp}{pp:List (List V)}{ys:List V}{s:List V}{r:Addr}(h:nN H pp ys)(hr:H r=some (.tup s)):nN H (pp++[s]) (ys++[.ref r]):=ku h (Al.cons' ⟨r,rfl,hr⟩ Al.nil)
def j7(H:Hp)(a:Addr)(pp:List (List V)):Prop:=∃ ys,H a=some (.lst ys)/\nN H pp ys
structure JK(A B:List (Int × Int))(most:Int):Prop where
 tm:∀ ks,ji ks (ai A B)->cX (ag ks (ai A B))/\2 * b6 ks (cW (ai A B)) - 1<=60000/\2 * b6 ks (cW (ai A B)) - 1<=most
structure qR(A B:List (Int × Int))(g:Int)(ks:List Int)(o:Option (List Int))(pp:List (List V)):Prop where
 kok:ji ks (ai A B)
 out:xx (ag ks (ai A B)) g (NF ks (ai A B)) [(ag ks (ai A B)).map λ z=>z.2] []=(o,pp)
 sh:∀ xs,o=some xs->InP (ai A B) (plF ks (ai A B) xs)/\sX (ai A B) (plF ks (ai A B) xs)=g/\InB ((ag ks (ai A B)).map λ z=>z.2) xs/\jc (ag ks (ai A B)) xs=g
 ap:o=none->Rep (ag ks (ai A B)) g [(ag ks (ai A B)).map λ z=>z.2] pp []/\(pp.length:Int)<=2 * b6 ks (cW (ai A B)) - 1
def ShV(H0 H:Hp)(r:Addr)(n:Nat)(ks:List Int)(P:List (Int × Int))(pp:List (List V)):Option (List Int)->Prop
 | some xs=>∃ a1 a2,H r=some (.tup [.str "shared",.ref a1,.ref a2])/\H a1=some (.tup (((plF ks P xs).take n).map V.int))/\H a2=some (.tup (((plF ks P xs).drop n).map V.int))
 | none=>∃ a1,H0 a1=none/\H r=some (.tup [.str "apart",.ref a1])/\j7 H a1 pp
abbrev jQ(C:Addr)(u:Addr)(v:Addr)(m:Int)(H:Hp)(Q:VK)(E:XK):Prop:=∃ (room f1 f2:Int) (A B:List (Int × Int)),bc C H u room f1 A/\bc C H v room f2 B/\jt A/\jt B/\1<=m/\m<=100000/\JK A B m/\∀ (ks:List Int) (o:Option (List Int)) (pp:List (List V)) (r:Addr) (H':Hp),Ext H H'->qR A B (f2 - f1) ks o pp->ShV H H' r A.length ks (ai A B) pp o->Q (.ref r) H'
def kD(C:Addr):Sp:=λ vs H Q E=>∃ (u:Addr) (v:Addr) (m:Int),vs=[.ref u,.ref v,.int m]/\(jQ C u v m H Q E)
theorem eP(C:Addr)(u:Addr)(v:Addr)(m:Int)(H:Hp)(Q:VK)(E:XK):kD C [.ref u,.ref v,.int m] H Q E=(jQ C u v m H Q E):=pD (f:=λ (u:Addr) (v:Addr) (m:Int)=>[.ref u,.ref v,.int m]) (λ _ _ _ _ _ _ h=>by cases h;exact⟨rfl,rfl,rfl⟩) u v m
theorem rR(C:Addr){vs:List V}{H:Hp}{Q:VK}{E:XK}(h:kD C vs H Q E):vs.length=3:=pE h λ _ _ _=>rfl
theorem mv(T:Tx K mg t):bq P w K mg base CX0 5 t.a_shares t.d_shares ["one", "other", "most"] (kD t.a_View):=by
 have G_gathered:=%[iQ|47];have G_is_whole:=%[cD|47];have G_first_case:=%[fP|47];have G_end_of:=%[vG|47];have G_numbers_at_once:=%[fS|47];have G_places_by_numbers:=%[eR|47];have G_parting:=%[rf|47];have G_parted:=%[mw|47];refine T.F_shares.ok bD (λ vs H Q E h=>rR _ h) (λ cdv A' outer s H vs Q E hr h=>?_)
 ·obtain⟨u,v,most,rfl,room,f1,f2,A,B,vu,vv,hA,hB,m1,m2,sh,k⟩:=h;refine⟨_,%[%[3,bD,%[gathered,%[%[0|0],%[%[1|0]|1]|1]|3]|4],%[%[(PW.pt %[%[%[%[is_whole,%[%[2|0]|1]|3],(by intros;rfl)|19]|23],%[%[cI,%[2|0],%[0|2],(af _)|14],%[%[dz,%[2|0],(@ki _ _ (.int 100000) _ _ ∅ T.m_MOST_CASES.choose_spec ⟨_,rfl⟩ ⋯),(af _)|14]|30]|25]|25]),%[(@gP _ _)|12],(@ao _)|16],%[%[4,bD,%[aB,%[3|0],%[0|2],(λ _ _=>rfl)|11]|4],%[%[5,bD,%[aB,%[3|0],%[0|2],(λ _ _=>rfl)|11]|4],%[%[6,bD,%[%[%[first_case,%[%[4|0]|1]|3]|1]|24]|4],%[%[7,bD,%[(@cc _)|24]|4],%[%[8,bD,%[0|2]|4],%[(@kU _ _ _ _ _ _ PassesOwn.leaving %[dz,%[len,az,%[%[6|0]|1]|6],%[0|2],(af _)|14] %[%[%[(bH hr.units),%[8|0],%[2|0],(af _)|14],%[%[%[%[(@bG _ _ _ _)|1]|18]|13]|12],(@ao _)|16],%[%[8,bD,%[aJ,%[8|0],%[0|2]|10]|4],%[%[9,bD,(@pK _ _ _ _ _ _ _ _ _ K0 MJ MI uq %[6|0] ∅ ∅)|4],%[%[10,bD,%[end_of,%[%[4|0],%[%[5|0],%[%[9|0]|1]|1]|1]|3]|4],%[%[%[uk,%[10|0],(@dN _ _ _),(af _)|14],%[%[11,bD,%[numbers_at_once,%[%[4|0],%[%[5|0],%[%[9|0]|1]|1]|1]|3]|4],%[%[%[yj,%[11|0],(@dN _ _ _),(af _)|14],%[%[%[places_by_numbers,%[%[0|0],%[%[1|0],%[%[4|0],%[%[11|0]|1]|1]|1]|1]|3]|13]|12],(@ao _)|16],%[%[10,bD,%[parting,%[%[4|0],%[%[5|0],%[%[9|0]|1]|1]|1]|3]|4],%[(@eY _ _ _ _ %[K0,PySem.F.slot_list_extend,PySem.F.type_list_extend,mz,%[6|0],%[%[parted,%[%[9|0],%[%[aB,%[10|0],%[0|2],(λ _ _=>rfl)|11],%[%[aB,%[10|0],%[0|2],(λ _ _=>rfl)|11]|1]|1]|1]|3]|1],∅,∅,∅,∅,∅|45] ∅)|12]|9]|9]|9],(@ao _)|16],%[(@eY _ _ _ _ %[K0,Mr,Mq,fK,%[7|0],%[%[10|0]|1],∅,∅,∅,∅,∅|45] ∅)|12]|9]|9]|9]|9]|9]),%[%[%[%[(@bG _ _ _ _),%[%[7|0]|1]|1]|18]|13]|12]|9]|9]|9]|9]|9]|9]|9]|9],?_⟩;rw [show start ["one", "other", "most", "found", "terms", "goal", "cases", "paper", "looked", "case", "step", "numbers"] [.ref u,.ref v,.int most]=[some (.ref u),some (.ref v),some (.int most),none,none,none,none,none,none,none,none,none] from rfl];clear G_gathered G_is_whole G_first_case G_end_of G_numbers_at_once G_places_by_numbers G_parting G_parted
  have hsz:∀ z∈ai A B,(1:Int)<=z.2:=λ z hz=>by
   unfold ai at hz
   rcases K4.mp hz with hz|hz
   ·obtain⟨a,ha,rfl⟩:=KG.mp hz;exact(hA.2 a ha).1
   ·obtain⟨a,ha,rfl⟩:=KG.mp hz;exact(hB.2 a ha).1
  exists k;exists sh;exists hsz;ac_rfl;rw [qu];refine⟨room,f1,f2,A,B,vu,vv,hA,hB,λ ks l r0 H1 e1 hr1 t1 ko=>?_⟩;obtain⟨ht,hM,hm⟩:=(sh ()).tm ks ko
  have hkz:∀ z∈ai A B,ar z.1=0\/ar z.1∈ks:=λ z hz=>by
   by_cases e:ar z.1=0
   ·exact .inl e
   ·exact .inr ((ko.mem _).mpr ⟨e,z,hz,rfl⟩)
  have hvol:=ip (ai A B) ks;have hz1:∀ z∈ag ks (ai A B),(1:Int)<=z.1:=λ z hz=>(ht.all z hz).1.1;have hnd:((ag ks (ai A B)).map λ z=>z.1).Nodup:=by rw [vk];exact ko.nd
  have hfin:∀ xs pp,xx (ag ks (ai A B)) (f2 - f1) (NF ks (ai A B)) [(ag ks (ai A B)).map λ z=>z.2] []=(some xs,pp)->InB ((ag ks (ai A B)).map λ z=>z.2) xs->jc (ag ks (ai A B)) xs=f2 - f1->qR A B (f2 - f1) ks (some xs) pp:=λ xs pp h1 h2 h3=>by
   obtain⟨i1,i2⟩:=meet ko.nd (hsz ()) hkz h2;exact⟨ko,h1,(λ ys e=>by cases e;exact⟨i1,i2.trans h3,h2,h3⟩),λ e=>by cases e⟩
  have hfin0:∀ pp,xx (ag ks (ai A B)) (f2 - f1) (NF ks (ai A B)) [(ag ks (ai A B)).map λ z=>z.2] []=(none,pp)->Rep (ag ks (ai A B)) (f2 - f1) [(ag ks (ai A B)).map λ z=>z.2] pp []->(pp.length:Int)<=2 * b6 ks (cW (ai A B)) - 1->qR A B (f2 - f1) ks none pp:=λ pp h1 h2 h3=>⟨ko,h1,(λ ys e=>by cases e),λ _=>⟨h2,h3⟩⟩;have hp1:=fJ (gB (hsz ())) ks
  have ini:StI (ag ks (ai A B)) (f2 - f1) (NF ks (ai A B)) ((ag ks (ai A B)).map λ z=>z.2) (2 * b6 ks (cW (ai A B)) - 1) [(ag ks (ai A B)).map λ z=>z.2] 0 []:=by
   have ep:gZ [(ag ks (ai A B)).map λ z=>z.2]=2 * dQ ((ag ks (ai A B)).map λ z=>z.2) - 1+0:=rfl;refine⟨λ c hc=>by rw [List.mem_singleton.mp hc];exact zm ht,by rw [ep,hvol];omega,rfl,rfl,_,?_,rfl⟩;rw [ep,hvol];unfold NF;omega
  have hA8:=hA.1;have hB8:=hB.1;have hpf:∀ xs,eW (cu (ag ks (ai A B)) xs) (ai A B)=plF ks (ai A B) xs:=λ _=>rfl;generalize ag ks (ai A B)=zs at *;generalize NF ks (ai A B)=N at *;generalize 2 * b6 ks (cW (ai A B)) - 1=M at *;have h17:=ht.len;exists ini;exists hz1;exists hnd;exists hfin;exists hfin0;exists hpf;have hm1:¬ most < 1:=by omega
  have hm2:¬ 100000 < most:=by omega
  clear sh hsz hkz hvol hp1 ko;simp! only [↓bU];rw [jP];refine⟨zs,t1,h17,λ c0 H2 e2 p2=>?_⟩;have hr2:=e2.at hr1;ac_rfl;intro cA H3 hcA e3 h3;have ncA:c0 ≠ cA:=λ z=>by obtain⟨_,hh,_⟩:=p2;rw [z,hcA] at hh;cases hh
  ac_rfl;intro pA H4 hpA e4 h4;have npA:c0 ≠ pA:=λ z=>by obtain⟨_,hh,_⟩:=p2;rw [z] at hh;rw [e3.at hh] at hpA;cases hpA
  have ncp:cA ≠ pA:=λ z=>by rw [z] at h3;rw [h3] at hpA;cases hpA
  have e14:=e2.trans (e3.trans e4);have hcA1:H1 cA=none:=e2.free hcA;have hpA1:H1 pA=none:=(e2.trans e3).free hpA;have h3_4:=e4.at h3;have stk0:dv H4 cA pA [zs.map λ z=>z.2] [.ref c0]:=⟨[],.ref c0,rfl,⟨c0,rfl,ncA,npA,ay p2 (e3.trans e4)⟩,rfl⟩;exists stk0;clear hcA hpA p2 hr2 h3 e2 e3 e4;ac_rfl;refine nS (by repeat' first|exact AK|exact uv|exact mo_nI|apply k6|apply mo_unN|exact pN|exact Hb|exact pO|exact mo_rI|exact mo_rIsN|exact mo_rNotN|exact ur|exact mo_qIx|exact uu|exact oC|apply kj|apply mo_tB|apply mo_not|apply mo_and|apply mo_or|apply AL|apply mo_un|apply oE|apply mo_qLst|apply AM) (λ mm σ H'=>∃ (st:List Bx) (cl pl:List V) (pp:List (List V)) (lk:Int) (v9 v10 v11:Option V),σ=[some (.ref u),some (.ref v),some (.int most),some (.ref r0),some (.ref l),some (.int (f2 - f1)),some (.ref cA),some (.ref pA),some (.int lk),v9,v10,v11]/\mm=(gZ st).toNat/\Ext H1 H'/\H' cA=some (.lst cl)/\H' pA=some (.lst pl)/\nN H' pp pl/\dv H' cA pA st cl/\StI zs (f2 - f1) N (zs.map λ z=>z.2) M st lk pp) _ ⟨[zs.map λ z=>z.2],[.ref c0],[],[],0,none,none,none,rfl,rfl,e14,h3_4,h4,Al.nil,stk0 (),ini ()⟩ ?_;rintro mm _ H5 ⟨st,cl,pl,pp,lk,v9,v10,v11,rfl,rfl,e5,h5c,h5p,hpl,stk,hI⟩
  cases st with
  | nil=>
   have hcl:cl=[]:=stk;subst hcl;obtain⟨q1,q2,q3⟩:=hI.done;have hres:=hfin0 () pp q1 q2 q3;exists hres;exists hpl;have hpA0:H pA=none:=e1.free hpA1;clear hI q1 q2 q3 hfin hfin0 stk ini stk0;ac_rfl;intro r6 H6 _ e6 h6;exact k () ks none pp r6 H6 (e1.trans (e5.trans e6)) (hres ()) ⟨pA,hpA0,h6,_,e6.at h5p,(hpl ()).ext e6⟩
  | cons c st=>
   obtain⟨cl0,y,rfl,hcy,stk'⟩:=stk;obtain⟨hlt,hc,hend,hgo⟩:=hI.step (hz1 ());obtain⟨a,rfl,nac,nap,pa⟩:=hcy;have hokS:∀ d∈st,dR zs d:=λ d hd=>hI.ok d (Ko _ hd);have hpn:=ui hokS;have hv1:=j9 hc.bx;have hpot:=hI.pot;have hlk0:0<=lk:=by have:=hI.len;omega
   have ep:gZ (c::st)=2 * dQ c - 1+gZ st:=rfl;have hcl0:=stk'.len;have hlkm:¬ lk=most:=by omega
   have hplk:pl.length < sizeLine:=Gi (by have:=hI.len;have:=hpl.1;omega);have hext:cl0.length+2<=sizeLine:=kl %[0|8];have hdec:(gZ st).toNat < (gZ (c::st)).toNat:=by omega
   obtain⟨cl,hcl⟩:∃ cl,cl0++[V.ref a]=cl:=⟨_,rfl⟩;have hlen:0 < (cl.length:Int):=by rw [←hcl,Ku,KW];omega
   have hlast:cl[cl.length - 1]? = some (.ref a):=by rw [←hcl,Ku,KW,M3,KR (Kq _),Nat.sub_self];rfl
   have hdrop:cl.dropLast=cl0:=by rw [←hcl,MP]
   rw [hcl] at h5c;have cs6:=CsV.upd (o:=.lst cl0) (c:=c) (y:=.ref a) ⟨a,rfl,nac,nap,pa⟩ h5c (.inl rfl);have st6:=dv.upd (o:=.lst cl0) h5c (.inl rfl) stk';have e6:Ext H1 (upd H5 cA (.lst cl0)):=e5.put hcA1;have h6c:upd H5 cA (.lst cl0) cA=some (.lst cl0):=aj;have h6p:upd H5 cA (.lst cl0) pA=some (.lst pl):=by rw [ak (K6 ncp)];exact h5p
   have pl6:nN (upd H5 cA (.lst cl0)) pp pl:=hpl.upd h5c;exists pl6;exists hend;exists hgo;exists hI;exists hpn;exists hdec;exists ep;exists hpot;exists hcl0;exists st6;clear stk' pa hcl hokS h3_4 h4 stk0 ini e14 hfin0 hpl;ac_rfl;generalize upd H5 cA (.lst cl0)=H6 at *;clear h5c h5p e5 hlen hlast hdrop;obtain⟨a',ha',_,_,pa6⟩:=cs6;cases ha';rw [xk];refine⟨zs,c,bO t1 e6,pa6,ht,hc,λ v7 H7 e7 hv7=>?_⟩;have e17:=e6.trans e7;have h7c:=e7.at h6c;have h7p:=e7.at h6p;have st7:=λ (_:Unit)=>(st6 ()).ext e7;have pa7:=ay pa6 e7;have pl7:=λ (_:Unit)=>(pl6 ()).ext e7
   cases hee:sV zs c (f2 - f1) with
   | some ss=>
    rw [hee] at hv7;obtain⟨r7,rfl,hr7⟩:=hv7;have hI':=λ (_:Unit)=>hend () ss hee;have plN:=λ (_:Unit)=>nN.upd (o:=.lst (pl++[.ref r7])) ((pl7 ()).snoc hr7) h7p;clear hend hgo h6c h6p st6 e6 pa6 hee k pl6 pl7;ac_rfl;exact⟨(gZ st).toNat,hdec (),st,cl0,pl++[.ref r7],_,lk+1,_,_,_,rfl,rfl,e17.put hpA1,(by first|rfl|(rw [ak ncp];exact h7c)),(by first|rfl|exact aj),plN (),dv.upd h7p (.inr rfl) (st7 ()),hI' ()⟩
   | none=>
    rw [hee] at hv7;have hv7':v7=.non:=hv7;subst hv7';obtain⟨hg1,hg2⟩:=hgo () hee;exists hg1;exists hg2;clear hend hgo h6c h6p st6 e6 pa6 hee pl6;ac_rfl;rw [Dc];refine⟨zs,c,bO t1 e17,pa7,ht,hc,λ v8 H8 e8 hv8=>?_⟩;have e18:=e17.trans e8;have h8c:=e8.at h7c;have h8p:=e8.at h7p;have st8:=λ (_:Unit)=>(st7 ()).ext e8;have pl8:=λ (_:Unit)=>(pl7 ()).ext e8;have pa8:=ay pa7 e8;clear h7c h7p st7 pa7 pl7
    cases hna:qO zs (f2 - f1) c with
    | some xs=>
     rw [hna] at hv8;obtain⟨r8,rfl,hr8⟩:=hv8;obtain⟨q1,q2,q3⟩:=hg1 () xs hna;have hin:=y7 hc q2;have hres:=hfin () xs pp q1 hin q3;have hxl:xs.length=zs.length:=by rw [hin.len,Kr]
     exists hres;exists hxl;clear hg1 hg2 hna q1 q2 q3 hin hfin pl8;ac_rfl;rw [xl];refine⟨room,room,f1,f2,A,B,zs,xs,vu.ext (e1.trans e18),vv.ext (e1.trans e18),hA8,hB8,bO t1 e18,h17,hnd (),hr8,hxl (),λ r9 a1 a2 H9 e9 w1 w2 w3=>?_⟩;rw [hpf ()] at w2 w3;have k':=k () ks (some xs) pp r9 H9 (e1.trans (e18.trans e9)) (hres ()) ⟨a1,a2,w1,w2,w3⟩;clear k;ac_rfl
    | none=>
     rw [hna] at hv8;have hv8':v8=.non:=hv8;subst hv8';obtain⟨q,hq1,hq2,hI'⟩:=hg2 () hna;exists hI';have hqc:q.1 < c.length:=by rw [hc.len];exact hq2
     have hc17:c.length<=17:=by rw [hc.len];exact h17
     have hpv:=kY (cs:=c) (k:=q.1) (a:=bM c q) hqc
     have hdec2:(gZ (loC c q.1 (bM c q)::upC c q.1 (bM c q)::st)).toNat < (gZ (c::st)).toNat:=by
      have e2':gZ (loC c q.1 (bM c q)::upC c q.1 (bM c q)::st)=2 * dQ (loC c q.1 (bM c q)) - 1+(2 * dQ (upC c q.1 (bM c q)) - 1+gZ st):=rfl;have:=ep ();have:=(hpn ()).1;omega
     exists hdec2;clear hg1 hg2 hna hfin hpv k;ac_rfl;rw [zG];refine⟨zs,c,q,bO t1 e18,pa8,ht,hc,hq1,hq2,λ r9 H9 e9 h9=>?_⟩;have e19:=e18.trans e9;have h9c:=e9.at h8c;have h9p:=e9.at h8p;have st9:=λ (_:Unit)=>(st8 ()).ext e9;have pl9:=λ (_:Unit)=>((pl8 ()).ext e9).snoc h9;have pa9:=ay pa8 e9;clear h8c h8p st8 pa8 pl8;ac_rfl;rw [jM];refine⟨c,q.1,rfl,pa9,hqc,hc17,λ r10 a1 a2 H10 n1 n2 e10 h10 p1 p2=>?_⟩;have e110:=e19.trans e10;have h10c:=e10.at h9c;have h10p:=e10.at h9p;have st10:=(st9 ()).ext e10;have pl11:=λ (_:Unit)=>nN.upd (o:=.lst (cl0++[.ref a1,.ref a2])) ((pl9 ()).ext e10) h10c;have m1c:a1 ≠ cA:=λ z=>by rw [z,h9c] at n1;cases n1
     have m1p:a1 ≠ pA:=λ z=>by rw [z,h9p] at n1;cases n1
     have m2c:a2 ≠ cA:=λ z=>by rw [z,h9c] at n2;cases n2
     have m2p:a2 ≠ pA:=λ z=>by rw [z,h9p] at n2;cases n2
     have stN:dv H10 cA pA (loC c q.1 (bM c q)::upC c q.1 (bM c q)::st) (cl0++[.ref a1,.ref a2]):=⟨cl0++[.ref a1],.ref a2,by rw [Me];rfl,⟨a2,rfl,m2c,m2p,p2⟩,cl0,.ref a1,rfl,⟨a1,rfl,m1c,m1p,p1⟩,st10⟩;have stM:=dv.upd (o:=.lst (cl0++[.ref a1,.ref a2])) h10c (.inl rfl) stN;have h11p:upd H10 cA (.lst (cl0++[.ref a1,.ref a2])) pA=some (.lst pl):=by rw [ak (K6 ncp)];exact h10p
     have h11c:upd H10 cA (.lst (cl0++[.ref a1,.ref a2])) cA=some (.lst (cl0++[.ref a1,.ref a2])):=aj;have e111:Ext H1 (upd H10 cA (.lst (cl0++[.ref a1,.ref a2]))):=e110.put hcA1;exists stM;clear h9c h9p st9 pa9 n1 n2 st10 stN p1 p2 h10p pl9;ac_rfl;generalize upd H10 cA (.lst (cl0++[.ref a1,.ref a2]))=H11 at *;clear h10c;ac_rfl;exact⟨_,hdec2 (),_,_,pl++[.ref r9],_,lk+1,_,_,_,rfl,rfl,e111.put hpA1,(by first|rfl|(rw [ak ncp];exact h11c)),(by first|rfl|exact aj),nN.upd (pl11 ()) h11p,dv.upd h11p (.inr rfl) (stM ()),hI' ()⟩
structure AxK(A:List (Int × Int)):Prop where
 len:A.length<=3
 sz:∀ a∈A,(1<=a.1/\a.1<=31)/\(-11000<=a.2/\a.2<=11000)
def nP(A:List (Int × Int)):Int:=A.foldr (λ a r=>a.1 * r) 1
theorem iH:∀ (A:List (Int × Int)) (b:Int × Int),((A++[b]).foldr (λ a r=>a.1 * r) 1)=(A.foldr (λ a r=>a.1 * r) 1) * b.1
 | [],b=>by show b.1 * 1=1 * b.1;omega
 | a::A,b=>by
  show a.1 * ((A++[b]).foldr (λ a r=>a.1 * r) 1)=a.1 * (A.foldr (λ a r=>a.1 * r) 1) * b.1
  rw [iH A b,LJ]
theorem dk:∀ {A:List (Int × Int)},(∀ a∈A,(1:Int)<=a.1)->1<=(A.foldr (λ a r=>a.1 * r) 1)
 | [],_=>K3 _
 | a::A,h=>by
  have ih:=dk (A:=A) λ b hb=>h b (Ko _ hb);have:=LP (h a Kp) ih ⋯ (by have:=h a Kp;omega)
  show 1<=a.1 * _
  omega
abbrev m8(K:PySem.W.Frag)(a:Addr)(ns:List Int)(p:Addr)(i:Int)(f:Int)(H:Hp)(Q:VK)(E:XK):Prop:=p=a/\SqL K H a (ns.map V.int)/\ns.length<=63/\0<=i/\i<=60/\1<=f/\f<=6/\∀ (A:List (Int × Int)) (r:Addr) (H':Hp),Ext H H'->cx H' r A->AxK A->nP A<=24->Q (.ref r) H'
def oq(K:W.Frag)(a:Addr)(ns:List Int):Sp:=λ vs H Q E=>∃ (p:Addr) (i:Int) (f:Int),vs=[.ref p,.int i,.int f]/\(m8 K a ns p i f H Q E)
theorem mN(K:W.Frag)(a:Addr)(ns:List Int)(p:Addr)(i:Int)(f:Int)(H:Hp)(Q:VK)(E:XK):oq K a ns [.ref p,.int i,.int f] H Q E=(m8 K a ns p i f H Q E):=pD (f:=λ (p:Addr) (i:Int) (f:Int)=>[.ref p,.int i,.int f]) (λ _ _ _ _ _ _ h=>by cases h;exact⟨rfl,rfl,rfl⟩) p i f
theorem wI(K:W.Frag)(a:Addr)(ns:List Int){vs:List V}{H:Hp}{Q:VK}{E:XK}(h:oq K a ns vs H Q E):vs.length=3:=pE h λ _ _ _=>rfl
theorem nt(T:Tx K mg t)(a:Addr)(ns:List Int):bq P w K mg base CX0 2 t.a__law_axes t.d__law_axes ["_law_script", "_law_at", "_law_factor"] (oq K a ns):=by
 have G__law_draw:=%[cj|47] a ns;refine T.F__law_axes.ok aT (λ vs H Q E h=>wI _ _ _ h) (λ c A o s H vs Q E hr h=>?_)
 ·obtain⟨_,i0,f,rfl,rfl,hS,hl,i1,i2,f1,f2,kk⟩:=h;rename_i a;refine⟨_,%[%[3,aT,%[(@cc _)|24]|4],%[%[4,aT,%[0|2]|4],%[%[KP,rfl,%[∅,T.z_range,%[%[_law_draw,%[%[0|0],%[%[1|0],%[%[0|2]|1]|1]|1]|3]|1],∅|35],%[5,aT|5],%[%[6,aT,%[_law_draw,%[%[0|0],%[%[aJ,%[aJ,%[1|0],%[0|2]|10],%[5|0]|10],%[%[um,%[0|2],%[0|2]|10]|1]|1]|1]|3]|4],%[%[7,aT,%[aJ,%[0|2],%[bt,%[6|0],%[0|2]|10]|10]|4],%[%[%[dz,%[bh,%[4|0],%[7|0]|10],%[0|2],(af _)|14],%[%[7,aT,%[0|2]|4]|12],(@ao _)|16],%[%[4,aT,%[bh,%[4|0],%[7|0]|10]|4],%[%[8,aT,%[bh,%[2|0],%[aF,%[bt,%[ef,%[6|0],%[0|2]|10],%[0|2]|10],%[0|2]|10]|10]|4],%[%[%[(bH hr.units),%[bt,%[ef,%[6|0],%[0|2]|10],%[0|2]|10],%[0|2],(af _)|14],%[%[8,aT,%[aF,%[bt,%[ef,%[6|0],%[0|2]|10],%[0|2]|10],%[0|2]|10]|4]|12],(@ao _)|16],%[(@eY _ _ _ _ %[K0,Mr,Mq,fK,%[3|0],%[%[%[%[7|0],%[%[8|0]|1]|1]|18]|1],∅,∅,∅,∅,∅|45] ∅)|12]|9]|9]|9]|9]|9]|9],(by intros;rfl)|29],%[%[%[3|0]|13]|12]|9]|9]|9],?_⟩;rw [show start ["_law_script", "_law_at", "_law_factor", "_law_axes_here", "_law_count", "_law_k", "_law_cell_here", "_law_size", "_law_pace"] [.ref a,.int i0,.int f]=[some (.ref a),some (.int i0),some (.int f),none,none,none,none,none,none] from rfl];clear G__law_draw;exists kk;ac_rfl;intro r H1 hr1 e1 h1;have hS1:=e1.2 K a _ hS;have hr0:=hr1;clear hr1;ac_rfl;rw [bf];refine⟨hS1,hl,⟨by omega,by omega⟩,by decide,λ n n0 n1=>?_⟩;ac_rfl;refine⟨by omega,by omega,?_⟩;refine kq (λ j σ H'=>∃ (A:List (Int × Int)) (ys:List V) (v5 v6 v7 v8:Option V),σ=[some (.ref a),some (.int i0),some (.int f),some (.ref r),some (.int (A.foldr (λ a r=>a.1 * r) 1)),v5,v6,v7,v8]/\Ext H H'/\H' r=some (.lst ys)/\Al (λ z y=>axP z y H') A ys/\A.length=j/\(∀ a∈A,(1<=a.1/\a.1<=5)/\(-36<=a.2/\a.2<=36))/\(A.foldr (λ a r=>a.1 * r) 1)<=24) ⟨[],[],none,none,none,none,rfl,e1,h1,Al.nil,rfl,(λ a h=>by cases h),by decide⟩ ?_ ?_
  ·rintro j _ H2 hj ⟨A,ys,v5,v6,v7,v8,rfl,e2,h2,al,hAl,hsz,hpr⟩;have hj3:j < 3:=by have:j < n.toNat:=hj;omega
   have hS2:=e2.2 K a _ hS;have hyl:ys.length < sizeLine:=ib (by rw [al.1,hAl];omega);have hp1:=dk λ a ha=>(hsz a ha).1.1;exists al;exists hsz;exists hAl;have x5:∀ x:Int,0<=x % 5/\x % 5 < 5:=λ x=>by omega
   have fpos:∀ y:Int,-6<=y->y<=6->-36<=f * y/\f * y<=36:=λ y y1 y2=>by
    have a1:=KI y2 (show 0<=f by omega);have a2:=KI y1 (show 0<=f by omega);omega
   have fin:∀ (sz pc:Int) (t6:Addr) (H6:Hp),Ext H2 H6->H6 t6=some (.tup [.int sz,.int pc])->t6 ≠ r->(1<=sz/\sz<=5)->(-36<=pc/\pc<=36)->(A.foldr (λ a r=>a.1 * r) 1) * sz<=24->∃ (A':List (Int × Int)) (ys':List V),A'=A++[(sz,pc)]/\ys'=ys++[.ref t6]/\Ext H (upd H6 r (.lst (ys++[.ref t6])))/\Al (λ z y=>axP z y (upd H6 r (.lst (ys++[.ref t6])))) A' ys'/\A'.length=j+1/\(∀ a∈A',(1<=a.1/\a.1<=5)/\(-36<=a.2/\a.2<=36))/\(A'.foldr (λ a r=>a.1 * r) 1)=(A.foldr (λ a r=>a.1 * r) 1) * sz/\(A'.foldr (λ a r=>a.1 * r) 1)<=24:=λ sz pc t6 H6 e6 h6 ntr s1 s2 s3=>by
    refine⟨_,_,rfl,rfl,(e2.trans e6).put hr0,?_,by rw [Ku,hAl (),KW],λ b hb=>?_,iH _ _,by rw [iH];exact s3⟩
    ·refine ku ((al ()).imp λ _ _ t=>axP.upd (axP.ext t e6) (e6.at h2)) ⟨rfl,λ i z y hz hy=>?_⟩
     cases i with
     | zero=>simp at hz hy;subst hz;subst hy;exact⟨t6,rfl,by rw [ak ntr];exact h6⟩
     | succ i=>simp at hz
    ·rcases K4.mp hb with hb|hb
     ·exact hsz () b hb
     ·rw [KQ.mp hb];exact⟨s1,s2⟩
   obtain⟨cnt,hcnt⟩:∃ cnt,(A.foldr (λ a r=>a.1 * r) 1)=cnt:=⟨_,rfl⟩;rw [hcnt] at hpr hp1 fin ⊢;exists fin;exists fpos;clear hj kk h1 hS1 hcnt;simp! only [↓aG];rw [bf];refine⟨hS2,hl,⟨by omega,by omega⟩,by decide,λ x x0 x1=>?_⟩;have x5':=x5 x;have y13:-6<=x / 5 % 13 - 6/\x / 5 % 13 - 6<=6:=by omega
   have y41:-36<=x / 260 % 41 - 20/\x / 260 % 41 - 20<=36:=by omega
   have yf:=fpos () _ y13.1 y13.2;have cmf:fU f (x / 5 % 13 - 6):=.inl ⟨by omega,by omega⟩;have cm1:fU cnt (1+x % 5):=.inl ⟨by omega,by omega⟩;have cm2:fU cnt 1:=.inl ⟨by omega,by omega⟩;exists y41;exists yf;clear fpos x5 y13;have go:∀ (sz:Int),(sz=1+x % 5\/sz=1)->(1<=sz/\sz<=5):=λ sz h=>by omega
   exists go
   by_cases hb:24 < cnt * (1+x % 5)
   ·by_cases hq:x / 65 % 4=1
    ·ac_rfl;intro t6 H6 ht6 e6 h6;have h2_6:=e6.at h2;have ntr:t6 ≠ r:=λ z=>by rw [z,h2] at ht6;cases ht6
     obtain⟨A',ys',hA',hys',g1,g2,g3,g4,g5,g6⟩:=fin () (1) (x / 260 % 41 - 20) t6 H6 e6 h6 ntr (go () _ (.inr rfl)) (y41 ()) (by rw [Mx];exact hpr);rw [hys'] at g2;exists g4;exists g2;clear ht6 fin go hb hq yf y41 h2;ac_rfl;exact⟨A',ys++[.ref t6],_,_,_,_,by rw [g5],g1,by first|rfl|exact aj,g2 (),g3,g4 (),g6⟩
    ·ac_rfl;intro t6 H6 ht6 e6 h6;have h2_6:=e6.at h2;have ntr:t6 ≠ r:=λ z=>by rw [z,h2] at ht6;cases ht6
     obtain⟨A',ys',hA',hys',g1,g2,g3,g4,g5,g6⟩:=fin () (1) (f * (x / 5 % 13 - 6)) t6 H6 e6 h6 ntr (go () _ (.inr rfl)) (yf ()) (by rw [Mx];exact hpr);rw [hys'] at g2;exists g4;exists g2;clear ht6 fin go hb hq yf y41 h2;ac_rfl;exact⟨A',ys++[.ref t6],_,_,_,_,by rw [g5],g1,by first|rfl|exact aj,g2 (),g3,g4 (),g6⟩
   ·by_cases hq:x / 65 % 4=1
    ·ac_rfl;intro t6 H6 ht6 e6 h6;have h2_6:=e6.at h2;have ntr:t6 ≠ r:=λ z=>by rw [z,h2] at ht6;cases ht6
     obtain⟨A',ys',hA',hys',g1,g2,g3,g4,g5,g6⟩:=fin () (1+x % 5) (x / 260 % 41 - 20) t6 H6 e6 h6 ntr (go () _ (.inl rfl)) (y41 ()) %[0|8];rw [hys'] at g2;exists g4;exists g2;clear ht6 fin go hb hq yf y41 h2;ac_rfl;exact⟨A',ys++[.ref t6],_,_,_,_,by rw [g5],g1,by first|rfl|exact aj,g2 (),g3,g4 (),g6⟩
    ·ac_rfl;intro t6 H6 ht6 e6 h6;have h2_6:=e6.at h2;have ntr:t6 ≠ r:=λ z=>by rw [z,h2] at ht6;cases ht6
     obtain⟨A',ys',hA',hys',g1,g2,g3,g4,g5,g6⟩:=fin () (1+x % 5) (f * (x / 5 % 13 - 6)) t6 H6 e6 h6 ntr (go () _ (.inl rfl)) (yf ()) %[0|8];rw [hys'] at g2;exists g4;exists g2;clear ht6 fin go hb hq yf y41 h2;ac_rfl;exact⟨A',ys++[.ref t6],_,_,_,_,by rw [g5],g1,by first|rfl|exact aj,g2 (),g3,g4 (),g6⟩
  ·rintro _ H2 ⟨A,ys,v5,v6,v7,v8,rfl,e2,h2,al,hAl,hsz,hpr⟩;have k':=kk () A r H2 e2 ⟨ys,h2,al⟩ ⟨by rw [hAl];omega,λ a ha=>by have:=hsz a ha;omega⟩ hpr;clear kk al hsz;ac_rfl
theorem A2{K:W.Frag}{ka kb:Bool}{H:Hp}{α β:Type}{R1:α->V->Hp->Prop}{R2:β->V->Hp->Prop}(h1:∀ z y H H',R1 z y H->Ext H H'->R1 z y H')(h2:∀ z y H H',R2 z y H->Ext H H'->R2 z y H'){a b:Addr}{xs ys:List V}{zs:List α}{ws:List β}(ha:SqK ka H a xs)(hb:SqK kb H b ys)(al:Al (λ z y=>R1 z y H) zs xs)(bl:Al (λ z y=>R2 z y H) ws ys) :
  (∀ i z H',(zs.zip ws)[i]? = some z->Ext H H'->(Itz ka kb a b xs ys).go i H'/\∀ x H'',(Itz ka kb a b xs ys).yld i H' x H''->Ext H' H''/\Ap R1 R2 z x H'')/\∀ H',Ext H H'->(Itz ka kb a b xs ys).stop (zs.zip ws).length H':=by
 have wk:=zV (ka:=ka) (kb:=kb) ha hb;refine⟨λ i z H' hz e=>?_,λ H' e=>?_⟩
 ·obtain⟨i1,i2⟩:=Km.mp hz;rw [Lq] at i1;have hx:xs[i]? = some (xs[i]'(by rw [al.1];omega)):=Kk _;have hy:ys[i]? = some (ys[i]'(by rw [bl.1];omega)):=Kk _;have g1:=al.2 i zs[i] _ (Kk _) hx;have g2:=bl.2 i ws[i] _ (Kk _) hy;generalize (xs[i]'(by rw [al.1];omega))=x0 at hx g1;generalize (ys[i]'(by rw [bl.1];omega))=y0 at hy g2
  have hzz:(xs.zip ys)[i]? = some (x0,y0):=by
   rw [Ld];exact⟨hx,hy⟩
  obtain⟨go,yd⟩:=wk.1 i _ H' hzz e;refine⟨go,λ x H'' y=>?_⟩;obtain⟨e2,p,hp,hp2⟩:=yd x H'' y;have ez:z=(zs[i],ws[i]):=by rw [←i2,Ng]
  subst ez;exact⟨e2,p,x0,y0,hp,hp2,h1 _ _ _ _ g1 (e.trans e2),h2 _ _ _ _ g2 (e.trans e2)⟩
 ·have:=wk.2 H' e
  rwa [show (zs.zip ws).length=(xs.zip ys).length by rw [Lq,Lq,al.1,bl.1]]
def eS:List (Int × Int)->List Int->Int
 | a::A,y::ys=>a.2 * y+eS A ys
 | _,_=>0
theorem qp:∀ (A:List (Int × Int)) (ys:List Int),((ys.zip A).map λ z=>z.1 * z.2.2).sum=eS A ys
 | [],[]=>rfl
 | [],_::_=>rfl
 | _::_,[]=>rfl
 | a::A,y::ys=>by
  rw [Mj,KZ,Mt,qp A ys]
  show y * a.2+_=a.2 * y+_
  rw [Ln]
abbrev m7  (f:Int) (q:Addr) (p:Addr) (H:Hp) (Q:VK) (E:XK):Prop:=∃ (A:List (Int × Int)) (ys:List Int),cx H q A/\H p=some (.tup (ys.map V.int))/\A.length<=8/\(∀ a∈A,-1000000<=a.2/\a.2<=1000000)/\∀ H',Ext H H'->Q (.int (f+eS A ys)) H'
def oo  : Sp:=λ vs H Q E=>∃ (f:Int) (q:Addr) (p:Addr),vs=[.int f,.ref q,.ref p]/\(m7  f q p H Q E)
theorem fO  (f:Int) (q:Addr) (p:Addr) (H:Hp) (Q:VK) (E:XK):oo  [.int f,.ref q,.ref p] H Q E=(m7  f q p H Q E):=pD (f:=λ (f:Int) (q:Addr) (p:Addr)=>[.int f,.ref q,.ref p]) (λ _ _ _ _ _ _ h=>by cases h;exact⟨rfl,rfl,rfl⟩) f q p
theorem wH  {vs:List V}{H:Hp}{Q:VK}{E:XK}(h:oo  vs H Q E):vs.length=3:=pE h λ _ _ _=>rfl
theorem gF(T:Tx K mg t):bq P w K mg base CX0 1 t.a__law_cell t.d__law_cell ["_law_first", "_law_axes_here", "_law_place_here"] oo:=by
 refine T.F__law_cell.ok pC (λ vs H Q E h=>wH h) (λ cdv A' outer s H vs Q E hr h=>?_)
 ·obtain⟨f,q,p,rfl,A,ys,⟨ts,hq,al⟩,hp,h8,hb,k⟩:=h;refine⟨_,%[%[%[aJ,%[0|0],%[sum,(bz rfl),%[%[(["_law_at", "_law_axis", "_law_first", "_law_axes_here", "_law_place_here"]),(2),(aD (aa dD) ["_law_first", "_law_axes_here", "_law_place_here"] rfl rfl nofun),rfl,%[∅,T.z_zip,%[%[2|0],%[%[1|0]|1]|1],∅,∅|39],(λ C s₀ H₀ ex pn=>(%[(2),rfl,%[%[(0),_,(show List.Nodup (["_law_at", "_law_axis", "_law_first", "_law_axes_here", "_law_place_here"]:List Str) from by decide +kernel),rfl,(Or.inl rfl),%[0|7]|17],%[%[(1),_,(show List.Nodup (["_law_at", "_law_axis", "_law_first", "_law_axes_here", "_law_place_here"]:List Str) from by decide +kernel),rfl,(Or.inl rfl),%[0|7]|17],(@aA _),∅|15],∅|15],∅,∅|22].mono λ _ _ _ _ h=>aU h)),(λ C s₀ H₀ ex pn=>(@aH _)),(λ C s₀ H₀ ex pn=>%[bh,%[0|0],%[aB,%[1|0],%[0|2],(λ _ _=>rfl)|11]|10]),(by intros;rfl)|21]|1]|6]|10]|13]|12],?_⟩;rw [show start ["_law_first", "_law_axes_here", "_law_place_here"] [.int f,.ref q,.ref p]=[some (.int f),some (.ref q),some (.ref p)] from rfl];have wk:=A2 (K:=K) (ka:=true) (kb:=false) (R1:=λ (z:Int) y (_:Hp)=>y=.int z) (R2:=axP) (λ _ _ _ _ h _=>h) (λ _ _ _ _ h e=>h.ext e) (zs:=ys) (ws:=A) hp hq ⟨by rw [Kr],λ i z y hz hy=>by rw [KH,hz] at hy;cases hy;rfl⟩ al;exists k;exists hb;ac_rfl;refine aP (ys.zip A) (λ _=>true) (λ z=>.int (z.1 * z.2.2)) (Ap (λ (z:Int) y (_:Hp)=>y=.int z) axP) wk.1 wk.2 (au (by rw [Lq];omega)) ?_ ?_
  ·intro D z x H' N1 N0 hz hD e hx k1 _;obtain⟨p1,q1,q2,rfl,hp1,rfl,q3,rfl,hq3⟩:=hx;have k1':N1 (.int (z.1 * z.2.2)) H':=k1 rfl H' (Ext.refl _);have hz2:=hb () z.2 (Mn (show (z.1,z.2)∈ys.zip A from hz)).2;have cm:fU z.1 z.2.2:=.inr ⟨by omega,by omega⟩;clear k1 wk k hz;simp! only [↓bP,↓aI]
  ·intro D H1 hD e1 h1;have h1':H1 D=some (.lst (((ys.zip A).map λ z=>z.1 * z.2.2).map V.int)):=by rw [h1,fT,Lh];rfl
   have hsum:=qp A ys;have k':=k () H1 e1;rw [←hsum] at k';clear k wk h1 hsum;ac_rfl
def InA:List (Int × Int)->List Int->Prop
 | [],[]=>True
 | a::A,y::ys=>(0<=y/\y < a.1)/\InA A ys
 | _,_=>False
theorem InA.len:∀ {A:List (Int × Int)}{ys:List Int},InA A ys->ys.length=A.length
 | [],[],_=>rfl
 | [],_::_,h=>h.elim
 | _::_,[],h=>h.elim
 | _::_,_::_,h=>Lv (· + 1) (InA.len h.2)
theorem InA.at:∀ {A:List (Int × Int)}{ys:List Int}{i:Nat}{a:Int × Int}{y:Int},InA A ys->A[i]? = some a->ys[i]? = some y->0<=y/\y < a.1
 | a::A,y::ys,0,b,z,h,h1,h2=>by cases h1;cases h2;exact h.1
 | a::A,y::ys,i+1,b,z,h,h1,h2=>InA.at h.2 (by simpa using h1) (by simpa using h2)
 | [],_,_,_,_,_,h1,_=>by simp at h1
 | _::_,[],_,_,_,h,_,_=>h.elim
theorem InA.of:∀ {A:List (Int × Int)}{ys:List Int},ys.length=A.length->(∀ (i:Nat) a y,A[i]? = some a->ys[i]? = some y->0<=y/\y < a.1)->InA A ys
 | [],[],_,_=>trivial
 | [],_::_,h,_=>by simp at h
 | _::_,[],h,_=>by simp at h
 | a::A,y::ys,h,k=>⟨k 0 a y rfl rfl,InA.of (by simpa using h) λ i b z h1 h2=>k (i+1) b z (by simpa using h1) (by simpa using h2)⟩
abbrev jW(K:PySem.W.Frag)(a:Addr)(ns:List Int)(p:Addr)(i:Int)(q:Addr)(H:Hp)(Q:VK)(E:XK):Prop:=p=a/\SqL K H a (ns.map V.int)/\ns.length<=63/\0<=i/\i<=60/\∃ A:List (Int × Int),cx H q A/\A.length<=8/\(∀ b∈A,(1:Int)<=b.1)/\∀ (ys:List Int) (r:Addr) (H':Hp),Ext H H'->H' r=some (.tup (ys.map V.int))->InA A ys->Q (.ref r) H'
def kJ(K:W.Frag)(a:Addr)(ns:List Int):Sp:=λ vs H Q E=>∃ (p:Addr) (i:Int) (q:Addr),vs=[.ref p,.int i,.ref q]/\(jW K a ns p i q H Q E)
theorem jO(K:W.Frag)(a:Addr)(ns:List Int)(p:Addr)(i:Int)(q:Addr)(H:Hp)(Q:VK)(E:XK):kJ K a ns [.ref p,.int i,.ref q] H Q E=(jW K a ns p i q H Q E):=pD (f:=λ (p:Addr) (i:Int) (q:Addr)=>[.ref p,.int i,.ref q]) (λ _ _ _ _ _ _ h=>by cases h;exact⟨rfl,rfl,rfl⟩) p i q
theorem rY(K:W.Frag)(a:Addr)(ns:List Int){vs:List V}{H:Hp}{Q:VK}{E:XK}(h:kJ K a ns vs H Q E):vs.length=3:=pE h λ _ _ _=>rfl
theorem lE(T:Tx K mg t)(a:Addr)(ns:List Int):bq P w K mg base CX0 2 t.a__law_place t.d__law_place ["_law_script", "_law_at", "_law_axes_here"] (kJ K a ns):=by
 have G__law_draw:=%[cj|47] a ns;refine T.F__law_place.ok nH (λ vs H Q E h=>rY _ _ _ h) (λ cdv A' outer s H vs Q E hr h=>?_)
 ·obtain⟨_,i0,q,rfl,rfl,hS,hl,i1,i2,A,⟨ts,hq,al⟩,h8,hb,kk⟩:=h;rename_i a;refine⟨_,%[%[%[fA,∅,T.z_tuple,nofun,%[%[(["_law_k", "_law_script", "_law_at", "_law_axes_here"]),(1),(aD (aa cO) ["_law_script", "_law_at", "_law_axes_here"] rfl rfl nofun),rfl,%[∅,T.z_range,%[%[len,az,%[%[2|0]|1]|6]|1],∅|35],(λ C s₀ H₀ ex pn=>%[(0),_,(show List.Nodup (["_law_k", "_law_script", "_law_at", "_law_axes_here"]:List Str) from by decide +kernel),rfl,(Or.inl rfl),%[0|7]|17]),(λ C s₀ H₀ ex pn=>(@aH _)),(λ C s₀ H₀ ex pn=>%[_law_draw,%[%[1|0],%[%[aJ,%[2|0],%[0|0]|10],%[%[aB,%[aB,%[3|0],%[0|0],(λ _ _=>rfl)|11],%[0|2],(λ _ _=>rfl)|11]|1]|1]|1]|3]),(by intros;rfl)|21]|1],⋯,⋯,∅,∅|40]|13]|12],?_⟩;rw [show start ["_law_script", "_law_at", "_law_axes_here"] [.ref a,.int i0,.ref q]=[some (.ref a),some (.int i0),some (.ref q)] from rfl];clear G__law_draw;have htl:ts.length=A.length:=al.1;exists kk;exists al;exists hb;exists htl;have ht8:ts.length<=8:=by have:=htl ();omega
  ac_rfl;refine⟨by omega,by omega,?_⟩;refine bS (List.range ((ts.length:Int)).toNat) (λ _=>true) (λ j x H'=>x=.int (0+(j:Nat))) (λ D k y H'=>∃ n:Int,y=.int n/\0<=n/\n < (A.getD k default).1) cp.1 cp.2 (λ D _ y H1 H2 h e=>h) (λ D _ y H1 xs o h hD=>h) (au (by rw [Lw];omega)) ?_ ?_
  ·intro D' k x H' N1 N0 hk hD' e _ hx k1 _;subst hx;have k1':=k1 rfl;have hkr:=K5.mp hk;have hkA:k < A.length:=by have:=htl ();omega
   obtain⟨c1,c2,hu⟩:=eU (al ()) hkA;have hS':=e.2 K a _ hS;have hq':=e.at hq;have hu':=e.at hu
   have hbk:1<=(A.getD k default).1:=by
    rw [Ky,Kk hkA];exact hb () _ (Lu hkA)
   generalize A.getD k default=b at *;clear k1 hk kk hq hu;simp! only [↓aL,↓aI];rw [bf];refine⟨hS',hl,⟨by omega,by omega⟩,by omega,λ z z0 z1=>?_⟩;have k2:=k1' (.int z) H' (Ext.refl _) ⟨z,rfl,z0,z1⟩;clear k1';ac_rfl
  intro D vs H1 hD e1 h1 al1;rw [fT,La,htl ()] at al1
  have hvs:vs=(vs.map vi).map V.int:=by
   rw [Lh];refine(List.map_id vs).symm.trans (Mf λ v hv=>?_);obtain⟨i,hi⟩:=L9.mp hv;have hil:i < A.length:=by have:=(Km.mp hi).1;rw [al1.1,Lw] at this;exact this
   obtain⟨n,rfl,_⟩:=al1.2 i i v (MU hil) hi;rfl
  have hin:InA A (vs.map vi):=InA.of (by rw [Kr,al1.1,Lw]) λ i b y h2 h3=>by
   rw [KH] at h3;obtain⟨v,hv,rfl⟩:=KA.mp h3;have hil:i < A.length:=(Km.mp h2).1;obtain⟨n,rfl,n0,n1⟩:=al1.2 i i v (MU hil) hv;rw [Ky,h2] at n1;exact⟨n0,n1⟩
  rw [hvs] at h1;generalize vs.map vi=ys at *;exists hin;clear al1 hvs;ac_rfl;intro r2 H2 _ e2 h2;have k':=kk () ys r2 H2 (e1.trans e2) h2 (hin ());clear kk;ac_rfl
abbrev m4  (p:Addr) (q:Addr) (H:Hp) (Q:VK) (E:XK):Prop:=∃ (A:List (Int × Int)) (ys:List Int),cx H q A/\H p=some (.tup (ys.map V.int))/\A.length<=8/\InA A ys/\∀ H',Ext H H'->Q (.bl true) H'
def oh  : Sp:=λ vs H Q E=>∃ (p:Addr) (q:Addr),vs=[.ref p,.ref q]/\(m4  p q H Q E)
theorem mM  (p:Addr) (q:Addr) (H:Hp) (Q:VK) (E:XK):oh  [.ref p,.ref q] H Q E=(m4  p q H Q E):=qL (f:=λ (p:Addr) (q:Addr)=>[.ref p,.ref q]) (λ _ _ _ _ h=>by cases h;exact⟨rfl,rfl⟩) p q
theorem wD  {vs:List V}{H:Hp}{Q:VK}{E:XK}(h:oh  vs H Q E):vs.length=2:=qM h λ _ _=>rfl
theorem gI(T:Tx K mg t):bq P w K mg base CX0 2 t.a__law_is_place t.d__law_is_place ["_law_place_here", "_law_axes_here"] oh:=by
 have G__law_whole:=%[dI|47];refine T.F__law_is_place.ok cF (λ vs H Q E h=>wD h) (λ cdv A' outer s H vs Q E hr h=>?_)
 ·obtain⟨p,q,rfl,A,ys,⟨ts,hq,al⟩,hp,h8,hin,k⟩:=h;refine⟨_,%[%[(PW.pt %[%[%[%[isinstance,aQ,%[%[0|0],%[%[(.ty "tuple"),(.type "tuple"),_,∅,T.z_tuple,nofun,rfl,⋯,⋯|31]|1]|1]|6],(by intros;rfl)|19]|23],%[%[(cy hr.units),%[len,az,%[%[0|0]|1]|6],%[len,az,%[%[1|0]|1]|6],(af _)|14]|30]|25]),%[%[(@cH _ _ _ _)|13]|12],(@ao _)|16],%[%[KP,rfl,%[∅,T.z_zip,%[%[0|0],%[%[1|0]|1]|1],∅,∅|39],(%[(2),rfl,%[%[2,cF|5],%[%[3,cF|5],(@aA _),∅|15],∅|15],∅,∅|22].mono λ _ _ _ _ h=>aU h),%[%[(PW.pt %[%[%[%[_law_whole,%[%[2|0]|1]|3],(by intros;rfl)|19]|23],%[%[%[jk,cI,%[0|2],%[2|0],%[aB,%[3|0],%[0|2],(λ _ _=>rfl)|11],∅|46]|23]|30]|25]),%[%[(@cH _ _ _ _)|13]|12],(@ao _)|16]|12],(by intros;rfl)|29],%[%[(@cH _ _ _ _)|13]|12]|9]|9],?_⟩;rw [show start ["_law_place_here", "_law_axes_here", "_law_at", "_law_axis"] [.ref p,.ref q]=[some (.ref p),some (.ref q),none,none] from rfl];clear G__law_whole;have htl:ts.length=A.length:=al.1;have hyl:=hin.len;have hll:(ys.length:Int)=(ts.length:Int):=by omega
  exists k;exists al;exists hin;exists htl;exists hyl;ac_rfl;refine uX (ka:=true) (kb:=false) (xs:=ys.map V.int) (ys:=ts) (λ i σ H'=>∃ v2 v3:Option V,σ=[some (.ref p),some (.ref q),v2,v3]/\Ext H H') ⟨none,none,rfl,Ext.refl _⟩ (λ i σ H' ⟨_,_,_,e⟩=>⟨e.at hp,e.at hq⟩) ?_ ?_
  ·rintro i x y w' _ H2 H3 hx hy ⟨v2,v3,rfl,e2⟩ hw e3 h3;rw [KH] at hx;obtain⟨n,hn,rfl⟩:=KA.mp hx;have hiA:i < A.length:=by have:=(Km.mp hy).1;have:=htl ();omega
   obtain⟨tq,rfl,htq⟩:=(al ()).2 i A[i] y (Kk hiA) hy;obtain⟨n0,n1⟩:=(hin ()).at (Kk hiA) hn;have e03:=e2.trans e3;have ht3:=e03.at htq;generalize A[i]=b at *;clear hx hy hn hw k htq e2 e3;simp! only [↓aG,↓bU];exact⟨_,_,rfl,e03⟩
  ·rintro _ H2 ⟨v2,v3,rfl,e2⟩;have k':=k () H2 e2;clear k;ac_rfl
abbrev mZ  (p:Addr) (H:Hp) (Q:VK) (E:XK):Prop:=∃ zs:List Tm3,gL H p zs/\zs.length<=17/\(∀ z∈zs,0<=z.2.2 - z.2.1+1/\z.2.2 - z.2.1+1<=2000000000)/\∀ H',Ext H H'->Q (.int (dQ (zs.map λ z=>z.2))) H'
def oa  : Sp:=λ vs H Q E=>∃ (p:Addr),vs=[.ref p]/\(mZ  p H Q E)
theorem mL  (p:Addr) (H:Hp) (Q:VK) (E:XK):oa  [.ref p] H Q E=(mZ  p H Q E):=sT (f:=λ (p:Addr)=>[.ref p]) (λ _ _ h=>by cases h;exact rfl) p
theorem wB  {vs:List V}{H:Hp}{Q:VK}{E:XK}(h:oa  vs H Q E):vs.length=1:=qN h λ _=>rfl
theorem pU:∀ (cs:Bx) (b:Int × Int),dQ (cs++[b])=dQ cs * (b.2 - b.1+1)
 | [],b=>by show (b.2 - b.1+1) * 1=1 * (b.2 - b.1+1);omega
 | c::cs,b=>by
  show (c.2 - c.1+1) * dQ (cs++[b])=(c.2 - c.1+1) * dQ cs * (b.2 - b.1+1)
  rw [pU cs b,LJ]
theorem eC(T:Tx K mg t):bq P w K mg base CX0 1 t.a__law_product t.d__law_product ["_law_terms_here"] oa:=by
 refine T.F__law_product.ok ba (λ vs H Q E h=>wB h) (λ cdv A' outer s H vs Q E hr h=>?_)
 ·obtain⟨p,rfl,zs,⟨ts,hp,al⟩,h17,hb,k⟩:=h;refine⟨_,%[%[1,ba,%[0|2]|4],%[%[KP,rfl,%[%[0|0]|20],(%[(3),rfl,%[%[2,ba|5],%[%[3,ba|5],%[%[4,ba|5],(@aA _),∅|15],∅|15],∅|15],∅,∅|22].mono λ _ _ _ _ h=>aU h),%[%[1,ba,%[bh,%[1|0],%[aJ,%[aF,%[4|0],%[3|0]|10],%[0|2]|10]|10]|4]|12],(by intros;rfl)|29],%[%[%[1|0]|13]|12]|9]|9],?_⟩;rw [show start ["_law_terms_here", "_law_count", "_law_times", "_law_low", "_law_high"] [.ref p]=[some (.ref p),none,none,none,none] from rfl];have htl:ts.length=zs.length:=al.1;exists k;exists al;exists hb;exists htl;ac_rfl;refine cz (xs:=ts) (λ i σ H'=>∃ v2 v3 v4:Option V,σ=[some (.ref p),some (.int (dQ ((zs.take i).map λ z=>z.2))),v2,v3,v4]/\Ext H H') ⟨none,none,none,rfl,Ext.refl _⟩ (λ i σ H' _ ⟨_,_,_,_,e⟩=>e.at hp) ?_ ?_
  ·rintro i y _ H2 hi ⟨v2,v3,v4,rfl,e2⟩;have hiz:i < zs.length:=by have:=(Km.mp hi).1;have:=htl ();omega
   obtain⟨tq,rfl,htq⟩:=(al ()).2 i zs[i] y (Kk hiz) hi;have hbi:=hb () zs[i] (Lu hiz)
   have hs:dQ ((zs.take (i+1)).map λ z=>z.2)=dQ ((zs.take i).map λ z=>z.2) * (zs[i].2.2 - zs[i].2.1+1):=by
    rw [LB,Kk hiz,LQ];exact pU _ _
   rw [hs];have cm:fU (dQ ((zs.take i).map λ z=>z.2)) (zs[i].2.2 - zs[i].2.1+1):=.inr ⟨by omega,by omega⟩;have ht2:=e2.at htq;generalize zs[i]=z at *;generalize dQ ((zs.take i).map λ z=>z.2)=vl at *;clear hs hi k htq;simp! only [↓aG];exact⟨_,_,_,rfl,e2⟩
  ·rintro _ H2 ⟨v2,v3,v4,rfl,e2⟩;rw [htl (),Lx];have k':=k () H2 e2;clear k;ac_rfl
abbrev qB  (x:Addr) (p:Addr) (q:Addr) (g:Int) (H:Hp) (Q:VK) (E:XK):Prop:=∃ (A B:List (Int × Int)) (ys zs:List Int) (a1 a2:Addr),H x=some (.tup [.str "shared",.ref a1,.ref a2])/\H a1=some (.tup (ys.map V.int))/\H a2=some (.tup (zs.map V.int))/\cx H p A/\cx H q B/\A.length<=8/\B.length<=8/\InA A ys/\InA B zs/\(∀ a∈A,-1000000<=a.2/\a.2<=1000000)/\(∀ a∈B,-1000000<=a.2/\a.2<=1000000)/\eS A ys=g+eS B zs/\∀ H',Ext H H'->Q (.bl true) H'
def tX  : Sp:=λ vs H Q E=>∃ (x:Addr) (p:Addr) (q:Addr) (g:Int),vs=[.ref x,.ref p,.ref q,.int g]/\(qB  x p q g H Q E)
theorem zI  (x:Addr) (p:Addr) (q:Addr) (g:Int) (H:Hp) (Q:VK) (E:XK):tX  [.ref x,.ref p,.ref q,.int g] H Q E=(qB  x p q g H Q E):=xv (f:=λ (x:Addr) (p:Addr) (q:Addr) (g:Int)=>[.ref x,.ref p,.ref q,.int g]) (λ _ _ _ _ _ _ _ _ h=>by cases h;exact⟨rfl,rfl,rfl,rfl⟩) x p q g
theorem yK  {vs:List V}{H:Hp}{Q:VK}{E:XK}(h:tX  vs H Q E):vs.length=4:=xw h λ _ _ _ _=>rfl
theorem oU(T:Tx K mg t):bq P w K mg base CX0 3 t.a__law_met t.d__law_met ["_law_found", "_law_one", "_law_other", "_law_goal_here"] tX:=by
 have G__law_is_place:=%[gI|47];have G__law_cell:=%[gF|47];refine T.F__law_met.ok sO (λ vs H Q E h=>yK h) (λ cdv A' outer s H vs Q E hr h=>?_)
 ·obtain⟨x,p,q,g,rfl,A,B,ys,zs,a1,a2,hx,h1,h2,hp,hq,hA,hB,iA,iB,bA,bB,hd,k⟩:=h;refine⟨_,%[%[(PW.pt %[%[%[%[isinstance,aQ,%[%[0|0],%[%[(.ty "tuple"),(.type "tuple"),_,∅,T.z_tuple,nofun,rfl,⋯,⋯|31]|1]|1]|6],(by intros;rfl)|19]|23],%[%[(cy hr.units),%[len,az,%[%[0|0]|1]|6],%[0|2],(af _)|14],%[%[(cy hr.units),%[aB,%[0|0],%[0|2],(λ _ _=>rfl)|11],(@bG _ _ _ _),(af _)|14]|30]|25]|25]),%[%[(@cH _ _ _ _)|13]|12],(@ao _)|16],%[%[(PW.pt %[%[%[%[_law_is_place,%[%[aB,%[0|0],%[0|2],(λ _ _=>rfl)|11],%[%[1|0]|1]|1]|3],(by intros;rfl)|19]|23],%[%[%[%[_law_is_place,%[%[aB,%[0|0],%[0|2],(λ _ _=>rfl)|11],%[%[2|0]|1]|1]|3],(by intros;rfl)|19]|23]|30]|25]),%[%[(@cH _ _ _ _)|13]|12],(@ao _)|16],%[%[%[(bH hr.units),%[_law_cell,%[%[0|2],%[%[1|0],%[%[aB,%[0|0],%[0|2],(λ _ _=>rfl)|11]|1]|1]|1]|3],%[_law_cell,%[%[3|0],%[%[2|0],%[%[aB,%[0|0],%[0|2],(λ _ _=>rfl)|11]|1]|1]|1]|3],(af _)|28]|13]|12]|9]|9],?_⟩;rw [show start ["_law_found", "_law_one", "_law_other", "_law_goal_here"] [.ref x,.ref p,.ref q,.int g]=[some (.ref x),some (.ref p),some (.ref q),some (.int g)] from rfl];clear G__law_is_place G__law_cell;exists k;exists hd;exists iA;exists iB;exists bA;exists bB;ac_rfl;rw [mM];refine⟨A,ys,hp,h1,hA,iA (),λ H1 e1=>?_⟩;have hx1:=e1.at hx;ac_rfl;rw [mM];refine⟨B,zs,ay hq e1,e1.at h2,hB,iB (),λ H2 e2=>?_⟩;have e02:=e1.trans e2;have hx2:=e2.at hx1;ac_rfl;rw [fO];refine⟨A,ys,ay hp e02,e02.at h1,hA,bA (),λ H3 e3=>?_⟩;have e03:=e02.trans e3;have hx3:=e3.at hx2;ac_rfl;rw [fO];refine⟨B,zs,ay hq e03,e03.at h2,hB,bB (),λ H4 e4=>?_⟩;ac_rfl;rw [KN (show 0+eS A ys=g+eS B zs by have:=hd ();omega)];exact k () H4 (e03.trans e4)
structure gN(H:Hp)(P:List (Int × Int))(ks:List Int)(kvs:List (Key × V)):Prop where
 e1:kvs.map (·.1)=ks.map (Sum.inl:Int->Key)
 nd:ks.Nodup
 len:ks.length<=P.length
 v:∀ t∈ks,∃ q,dw kvs (.inl t)=some (.ref q)/\H q=some (.tup [.int (cG P t),.int (br P t)])
 mem:∀ t,t∈ks ↔ t ≠ 0/\∃ z∈P,ar z.1=t
theorem gN.ext{H H':Hp}{P:List (Int × Int)}{ks:List Int}{kvs:List (Key × V)}(h:gN H P ks kvs)(e:Ext H H'):gN H' P ks kvs:=
 ⟨h.e1,h.nd,h.len,λ t ht=>(let ⟨q,h1,h2⟩:=h.v t ht;⟨q,h1,e.at h2⟩),h.mem⟩
theorem gN.upd{H:Hp}{P:List (Int × Int)}{ks:List Int}{kvs k0:List (Key × V)}{d:Addr}{o:HO}(h:gN H P ks kvs)(hd:H d=some (.dK k0)):gN (upd H d o) P ks kvs:=
 ⟨h.e1,h.nd,h.len,λ t ht=>(let ⟨q,h1,h2⟩:=h.v t ht;⟨q,h1,by rw [ak (λ z=>by rw [z,hd] at h2;cases h2)];exact h2⟩),h.mem⟩
theorem gN.nil{H:Hp}:gN H [] [] []:=⟨rfl,MQ,Kq _,(λ t h=>by cases h),λ t=>⟨(λ h=>by cases h),λ ⟨_,z,hz,_⟩=>by cases hz⟩⟩
theorem gN.get{H:Hp}{P:List (Int × Int)}{ks:List Int}{kvs:List (Key × V)}{q0:Addr}(h:gN H P ks kvs){t:Int}(ht:t ≠ 0)(h0:H q0=some (.tup [.int 0,.int 0])):∃ q,(dw kvs (.inl t)).getD (.ref q0)=.ref q/\H q=some (.tup [.int (cG P t),.int (br P t)]):=by
 by_cases hm:t∈ks
 ·obtain⟨q,h1,h2⟩:=h.v t hm;exact⟨q,by rw [h1];rfl,h2⟩
 ·have hno:∀ z∈P,¬ ar z.1=t:=λ z hz e=>hm ((h.mem t).mpr ⟨ht,z,hz,e⟩);refine⟨q0,by rw [eG h.e1 hm];rfl,?_⟩;unfold cG br;rw [eh hno,eh hno];exact h0
theorem gN.skip{H:Hp}{P:List (Int × Int)}{ks:List Int}{kvs:List (Key × V)}{z:Int × Int}(h:gN H P ks kvs)(hz:z.1=0):gN H (P++[z]) ks kvs:=by
 have h0:ar z.1=0:=by rw [hz];rfl
 have hne:∀ t∈ks,¬ ar z.1=t:=λ t ht e=>((h.mem t).mp ht).1 (by rw [←e];exact h0);refine⟨h.e1,h.nd,by rw [Ku];have:=h.len;omega,λ t ht=>?_,λ t=>?_⟩
 ·obtain⟨q,h1,h2⟩:=h.v t ht;exact⟨q,h1,by rw [gT,fN,Ks (hne t ht),Ks (hne t ht),Lz,Lz];exact h2⟩
 ·rw [h.mem t];constructor
  ·rintro ⟨a,y,hy,e⟩;exact⟨a,y,Ll _ hy,e⟩
  ·rintro ⟨a,y,hy,e⟩
   rcases K4.mp hy with hy|hy
   ·exact⟨a,y,hy,e⟩
   ·rw [KQ.mp hy,h0] at e;exact absurd e.symm a
theorem gN.put{H:Hp}{P:List (Int × Int)}{ks:List Int}{kvs:List (Key × V)}{z:Int × Int}{tq:Addr}(h:gN H P ks kvs)(hz:z.1 ≠ 0)(ht:H tq=some (.tup [.int (cG P (ar z.1)+loP z),.int (br P (ar z.1)+hiP z)])):∃ ks',gN H (P++[z]) ks' (dg kvs (.inl (ar z.1)) (.ref tq)):=by
 have h0:ar z.1 ≠ 0:=by unfold ar;omega
 have hv:∀ t:Int,dw (dg kvs (.inl (ar z.1)) (.ref tq)) (.inl t)=if ar z.1=t then some (.ref tq) else dw kvs (.inl t):=λ t=>by
  rw [ky]
  by_cases e:ar z.1=t
  ·rw [Kx e,Kx (by rw [e])]
  ·rw [Ks e,Ks (λ q=>e (by cases q;rfl))]
 have fin:∀ ks',(∀ t,t∈ks' ↔ t∈ks\/t=ar z.1)->(dg kvs (.inl (ar z.1)) (.ref tq)).map (·.1)=ks'.map (Sum.inl:Int->Key)->ks'.Nodup->ks'.length<=ks.length+1->gN H (P++[z]) ks' (dg kvs (.inl (ar z.1)) (.ref tq)):=λ ks' hm a1 a3 a4=>by
  refine⟨a1,a3,by rw [Ku,KW];have:=h.len;omega,λ t ht'=>?_,λ t=>?_⟩
  ·rw [hv,gT,fN]
   by_cases e:ar z.1=t
   ·rw [Kx e,Kx e,Kx e,←e];exact⟨tq,rfl,ht⟩
   ·rw [Ks e,Ks e,Ks e,Lz,Lz];exact h.v t (((hm t).mp ht').resolve_right λ q=>e q.symm)
  ·rw [hm t,h.mem t];constructor
   ·rintro (⟨a,y,hy,e⟩|e)
    ·exact⟨a,y,Ll _ hy,e⟩
    ·exact⟨by rw [e];exact h0,z,KU _ Kp,e.symm⟩
   ·rintro ⟨a,y,hy,e⟩
    rcases K4.mp hy with hy|hy
    ·exact .inl ⟨a,y,hy,e⟩
    ·rw [KQ.mp hy] at e;exact .inr e.symm
 by_cases hm:ar z.1∈ks
 ·obtain⟨q,h1,_⟩:=h.v _ hm;exact⟨ks,fin ks (λ t=>⟨.inl,λ q=>q.elim id λ e=>by rw [e];exact hm⟩) (by rw [iG _ h1];exact h.e1) h.nd %[0|8]⟩
 ·refine⟨ks++[ar z.1],fin _ (λ t=>by rw [K4,KQ]) ?_ ?_ (by rw [Ku];exact Kq _)⟩
  ·rw [gk (eG h.e1 hm),h.e1,LQ];rfl
  ·rw [List.nodup_append];exact⟨h.nd,by simp,λ a ha b hb e=>hm (by rw [KQ] at hb;rw [←hb,←e];exact ha)⟩
theorem uZ:∀ {l m:List Int},l.Nodup->m.Nodup->l.Pairwise (· >= ·)->m.Pairwise (· >= ·)->(∀ t,t∈l ↔ t∈m)->l=m
 | [],[],_,_,_,_,_=>rfl
 | [],b::m,_,_,_,_,h=>by have:=(h b).mpr Kp;cases this
 | a::l,[],_,_,_,_,h=>by have:=(h a).mp Kp;cases this
 | a::l,b::m,n1,n2,p1,p2,h=>by
  obtain⟨a1,a2⟩:=Lb.mp n1;obtain⟨b1,b2⟩:=Lb.mp n2;obtain⟨c1,c2⟩:=List.pairwise_cons.mp p1;obtain⟨d1,d2⟩:=List.pairwise_cons.mp p2
  have hab:a=b:=by
   rcases KS.mp ((h a).mp Kp) with e|e
   ·exact e
   ·rcases KS.mp ((h b).mpr Kp) with e'|e'
    ·exact e'.symm
    ·have x1:=d1 a e;have x2:=c1 b e';omega
  subst hab;congr 1;refine uZ a2 b2 c2 d2 λ t=>⟨λ ht=>?_,λ ht=>?_⟩
  ·exact(KS.mp ((h t).mp (Ko _ ht))).resolve_left λ e=>a1 (by rw [←e];exact ht)
  ·exact(KS.mp ((h t).mpr (Ko _ ht))).resolve_left λ e=>b1 (by rw [←e];exact ht)
theorem ji.uniq{l m:List Int}{P:List (Int × Int)}(h1:ji l P)(h2:ji m P):l=m:=uZ h1.nd h2.nd h1.ord h2.ord λ t=>(h1.mem t).trans (h2.mem t).symm
theorem lh:∀ {A B:List (Int × Int)}{ys zs:List Int},InA A ys->InA B zs->InP (ai A B) (ys++zs)
 | [],[],[],[],_,_=>trivial
 | [],[],[],_::_,_,h=>h.elim
 | [],_::_,[],[],_,h=>h.elim
 | [],b::B,[],z::zs,h1,h2=>⟨h2.1,lh (A:=[]) (ys:=[]) trivial h2.2⟩
 | [],_,_::_,_,h,_=>h.elim
 | _::_,_,[],_,h,_=>h.elim
 | a::A,B,y::ys,zs,h1,h2=>⟨h1.1,lh h1.2 h2⟩
theorem gU:∀ {A B:List (Int × Int)}{ys zs:List Int},InA A ys->InA B zs->sX (ai A B) (ys++zs)=eS A ys - eS B zs
 | [],[],[],[],_,_=>rfl
 | [],[],[],_::_,_,h=>h.elim
 | [],_::_,[],[],_,h=>h.elim
 | [],b::B,[],z::zs,h1,h2=>by
  have ih:=gU (A:=[]) (ys:=[]) (B:=B) (zs:=zs) trivial h2.2
  show -b.2 * z+sX (ai [] B) ([]++zs)=0 - (b.2 * z+eS B zs)
  rw [ih,Int.neg_mul]
  show _+(0 - eS B zs)=_
  omega
 | [],_,_::_,_,h,_=>h.elim
 | _::_,_,[],_,h,_=>h.elim
 | a::A,B,y::ys,zs,h1,h2=>by
  have ih:=gU h1.2 h2
  show a.2 * y+sX (ai A B) (ys++zs)=a.2 * y+eS A ys - eS B zs
  rw [ih];omega
theorem ke:∀ {A B:List (Int × Int)}{xs:List Int},InP (ai A B) xs->InA A (xs.take A.length)/\InA B (xs.drop A.length)
 | [],[],[],_=>⟨trivial,trivial⟩
 | [],[],_::_,h=>h.elim
 | [],_::_,[],h=>h.elim
 | [],b::B,z::zs,h=>⟨trivial,h.1,(ke (A:=[]) (B:=B) (xs:=zs) h.2).2⟩
 | _::_,_,[],h=>h.elim
 | a::A,B,y::xs,h=>⟨⟨h.1,(ke h.2).1⟩,(ke h.2).2⟩
def sgP(sg:Int)(a:Int × Int):Int × Int:=(sg * (ae a).2,a.1)
theorem fX(A B:List (Int × Int)):ai (A.map ae) (B.map ae)=A.map (sgP 1)++B.map (sgP (-1)):=by
 unfold ai;rw [map_map,map_map];congr 1
 ·refine Mf λ a _=>?_
  show ((ae a).2,a.1)=(1 * (ae a).2,a.1)
  rw [Int.one_mul]
 ·refine Mf λ a _=>?_
  show (-(ae a).2,a.1)=(-1 * (ae a).2,a.1)
  rw [Int.neg_one_mul]
abbrev jU  (p:Addr) (q:Addr) (H:Hp) (Q:VK) (E:XK):Prop:=∃ A B:List (Int × Int),cx H p A/\cx H q B/\A.length<=8/\B.length<=8/\(∀ a∈A,(1:Int)<=a.1)/\(∀ a∈B,(1:Int)<=a.1)/\∀ (ks:List Int) (r:Addr) (H':Hp),Ext H H'->gL H' r (ag ks (ai (A.map ae) (B.map ae)))->ji ks (ai (A.map ae) (B.map ae))->Q (.ref r) H'
def kH  : Sp:=λ vs H Q E=>∃ (p:Addr) (q:Addr),vs=[.ref p,.ref q]/\(jU  p q H Q E)
theorem gv  (p:Addr) (q:Addr) (H:Hp) (Q:VK) (E:XK):kH  [.ref p,.ref q] H Q E=(jU  p q H Q E):=qL (f:=λ (p:Addr) (q:Addr)=>[.ref p,.ref q]) (λ _ _ _ _ h=>by cases h;exact⟨rfl,rfl⟩) p q
theorem rW  {vs:List V}{H:Hp}{Q:VK}{E:XK}(h:kH  vs H Q E):vs.length=2:=qM h λ _ _=>rfl
theorem dJ(T:Tx K mg t):bq P w K mg base CX0 1 t.a__law_terms t.d__law_terms ["_law_one", "_law_other"] kH:=by
 refine T.F__law_terms.ok aR (λ vs H Q E h=>rW h) (λ cdv A' outer s H vs Q E hr h=>?_)
 ·obtain⟨p,q,rfl,A,B,pA,pB,hA,hB,sA,sB,k⟩:=h;refine⟨_,%[(@dM _ _ (2) _ _ _ _ aR.nd rfl (Or.inr rfl) (@gQ _ _) ∅ %[0|7]),%[%[KP,rfl,%[%[%[%[%[%[0|0],%[%[0|2]|1]|1]|18],%[%[%[%[1|0],%[(@DP _ _ _ _ _ _ uE %[0|2])|1]|1]|18]|1]|1]|24]|20],(%[(2),rfl,%[%[3,aR|5],%[%[4,aR|5],(@aA _),∅|15],∅|15],∅,∅|22].mono λ _ _ _ _ h=>aU h),%[%[KP,rfl,%[%[3|0]|20],(%[(2),rfl,%[%[5,aR|5],%[%[6,aR|5],(@aA _),∅|15],∅|15],∅,∅|22].mono λ _ _ _ _ h=>aU h),%[%[(PW.pt %[%[dz,%[5|0],%[0|2],(af _)|14],%[%[(cy hr.units),%[6|0],%[0|2],(af _)|14]|37]|34]),%[%[%[(cJ hr.units),%[2|0],%[abs,bT,%[%[6|0]|1]|6],%[%[%[0|2],%[%[0|2]|1]|1]|18],⟨by rfl,by rfl,by rfl,by rfl⟩|43],(%[(2),rfl,%[%[7,aR|5],%[%[8,aR|5],(@aA _),∅|15],∅|15],∅,∅|22].mono λ _ _ _ _ h=>aU h),∅,∅,∅|38],%[%[%[dz,%[bh,%[6|0],%[4|0]|10],%[0|2],(af _)|14],%[%[(cJ hr.units),%[2|0],%[abs,bT,%[%[6|0]|1]|6],%[%[%[7|0],%[%[aF,%[aJ,%[8|0],%[5|0]|10],%[0|2]|10]|1]|1]|18],rfl|42]|12],%[%[(cJ hr.units),%[2|0],%[abs,bT,%[%[6|0]|1]|6],%[%[%[aJ,%[aF,%[7|0],%[5|0]|10],%[0|2]|10],%[%[8|0]|1]|1]|18],rfl|42]|12]|16]|12]|9],(@ao _)|16]|12],(by intros;rfl)|29]|12],(by intros;rfl)|29],%[%[(["_law_times", "_law_one", "_law_other", "_law_ranges", "_law_axes_here", "_law_sign", "_law_size", "_law_pace", "_law_low", "_law_high", "_law_found"]),(1),(9),_,aR.nd,rfl,(Or.inl rfl),(aD (aa cN) ["_law_one", "_law_other", "_law_ranges", "_law_axes_here", "_law_sign", "_law_size", "_law_pace", "_law_low", "_law_high", "_law_found"] rfl rfl nofun),rfl,%[%[sorted,(sE rfl),%[%[2|0]|1]|6]|20],(λ C s₀ H₀ ex pn=>%[(0),_,(show List.Nodup (["_law_times", "_law_one", "_law_other", "_law_ranges", "_law_axes_here", "_law_sign", "_law_size", "_law_pace", "_law_low", "_law_high", "_law_found"]:List Str) from by decide +kernel),rfl,(Or.inl rfl),%[0|7]|17]),(λ C s₀ H₀ ex pn=>(@aH _)),(λ C s₀ H₀ ex pn=>%[yk,%[%[%[0|0]|1]|18],(@oz _ _ _ _ _ _ (cJ hr.units) %[3|0] %[0|0] (λ _ _=>rfl))|10]),∅,(by intros;rfl),%[0|7]|44],%[(@eY _ _ _ _ (@pK _ _ _ _ _ _ _ _ _ K0 PySem.F.slot_list_reverse PySem.F.type_list_reverse rl %[9|0] ∅ ∅) ∅),%[%[%[9|0]|13]|12]|9]|9]|9]|9],?_⟩;rw [show start ["_law_one", "_law_other", "_law_ranges", "_law_axes_here", "_law_sign", "_law_size", "_law_pace", "_law_low", "_law_high", "_law_found"] [.ref p,.ref q]=[some (.ref p),some (.ref q),none,none,none,none,none,none,none,none] from rfl];rw [fX] at k;exists k;exists sA;exists sB;ac_rfl;intro d H1 hd1 e1 h1;have hd0:=hd1;ac_rfl;intro t1 H2 _ e2 h2;ac_rfl;intro t2 H3 _ e3 h3;have h2_3:=e3.at h2;ac_rfl;intro l4 H4 hl4 e4 h4;have nl:l4 ≠ d:=λ z=>by rw [z,(e2.trans e3).at h1] at hl4;cases hl4
  have e04:=e1.trans (e2.trans (e3.trans e4));have h1_4:=(e2.trans (e3.trans e4)).at h1;have ht1:=e4.at h2_3;have ht2:=e4.at h3;clear hd1 hl4 h1 h2 h2_3 h3 e1 e2 e3 e4;ac_rfl;refine cz (xs:=[.ref t1,.ref t2]) (λ i σ H'=>∃ (ks:List Int) (kvs:List (Key × V)) (v3 v4 v5 v6 v7 v8:Option V),σ=[some (.ref p),some (.ref q),some (.ref d),v3,v4,v5,v6,v7,v8,none]/\Ext H H'/\(∀ b o,b ≠ d->H4 b=some o->H' b=some o)/\H' d=some (.dK kvs)/\gN H' (if i=0 then [] else if i=1 then A.map (sgP 1) else A.map (sgP 1)++B.map (sgP (-1))) ks kvs) ⟨[],[],none,none,none,none,none,none,rfl,e04,λ _ _ _ h=>h,h1_4,gN.nil⟩ (λ i σ H' _ ⟨_,_,_,_,_,_,_,_,_,_,kp,_⟩=>kp l4 _ nl h4) ?_ ?_
  ·rintro i y _ H5 hi ⟨ks,kvs,v3,v4,v5,v6,v7,v8,rfl,e5,kp,h5d,ri⟩
   obtain⟨tq,axp,Ax,sg,P0,hy,htq,pX,hX8,hX1,hsg,hP8,hP0,hP1⟩:∃ (tq axp:Addr) (Ax:List (Int × Int)) (sg:Int) (P0:List (Int × Int)),y=.ref tq/\H4 tq=some (.tup [.ref axp,.int sg])/\cx H axp Ax/\Ax.length<=8/\(∀ a∈Ax,(1:Int)<=a.1)/\(sg=1\/sg=-1)/\P0.length<=8/\(if i=0 then [] else if i=1 then A.map (sgP 1) else A.map (sgP 1)++B.map (sgP (-1)))=P0/\(if i+1=0 then [] else if i+1=1 then A.map (sgP 1) else A.map (sgP 1)++B.map (sgP (-1)))=P0++Ax.map (sgP sg):=by
    match i,hi with
    | 0,hi=>cases hi;exact⟨t1,p,A,1,[],rfl,ht1,pA,hA,sA (),.inl rfl,by decide,rfl,rfl⟩
    | 1,hi=>cases hi;exact⟨t2,q,B,-1,A.map (sgP 1),rfl,ht2,pB,hB,sB (),.inr rfl,by rw [Kr];exact hA,rfl,rfl⟩
    | i+2,hi=>simp at hi
   subst hy;rw [hP0] at ri;rw [hP1];have ht5:=kp tq _ (λ e=>by rw [e,h1_4] at htq;cases htq) htq;obtain⟨ts,hax,alX⟩:=pX;have hax5:=e5.at hax;have htl:ts.length=Ax.length:=alX.1;exists alX;exists htl;exists hX1;have ini:gN H5 (P0++(Ax.map (sgP sg)).take 0) ks kvs:=by rw [List.take_zero,Md];exact ri
   exists ini;clear hi hP0 hP1 ri htq k pA pB ht1 ht2 h4;simp! only [↓aG];refine cz (xs:=ts) (λ j σ H'=>∃ (ks:List Int) (kvs:List (Key × V)) (v5 v6 v7 v8:Option V),σ=[some (.ref p),some (.ref q),some (.ref d),some (.ref axp),some (.int sg),v5,v6,v7,v8,none]/\Ext H H'/\(∀ b o,b ≠ d->H4 b=some o->H' b=some o)/\H' d=some (.dK kvs)/\gN H' (P0++(Ax.map (sgP sg)).take j) ks kvs) ⟨ks,kvs,_,_,_,_,rfl,e5,kp,h5d,ini ()⟩ (λ j σ H' _ ⟨_,_,_,_,_,_,_,e,_⟩=>e.at hax) ?_ ?_
   ·clear ini h5d e5 kp ht5 hax5;rintro j y _ H6 hj ⟨ks,kvs,v5,v6,v7,v8,rfl,e6,kp,h6d,ri⟩;have hjA:j < Ax.length:=by have:=(Km.mp hj).1;have:=htl ();omega
    obtain⟨aq,rfl,haq⟩:=(alX ()).2 j Ax[j] y (Kk hjA) hj;have ha6:=e6.at haq;have hsz:=hX1 () Ax[j] (Lu hjA)
    have htk:(Ax.map (sgP sg)).take (j+1)=(Ax.map (sgP sg)).take j++[sgP sg Ax[j]]:=by
     rw [LB,KH,Kk hjA];rfl
    rw [htk,←Me];have hPl:(P0++(Ax.map (sgP sg)).take j).length<=16:=by rw [Ku,Lm,Kr];omega
    generalize P0++(Ax.map (sgP sg)).take j=PP at *;have lk:kvs.length < sizeLine:=ib (by have:=Lv List.length ri.e1;have:=ri.len;rw [Kr,Kr] at *;omega);generalize Ax[j]=a at *;clear hj htk haq
    by_cases hs1:1 < a.1
    ·have hkp:(ae a).2=a.2:=by unfold ae;rw [if_pos hs1]
     by_cases hp0:a.2=0
     ·have rs:=λ (_:Unit)=>ri.skip (z:=sgP sg a) (by show sg * (ae a).2=0;rw [hkp,hp0,Ly]);clear ri hkp;simp! only [↓aG];exact⟨ks,kvs,_,_,_,_,rfl,e6,kp,rfl,rs ()⟩
     obtain⟨z,hz⟩:∃ z,sgP sg a=z:=⟨_,rfl⟩;have hz1:z.1=sg * a.2:=by rw [←hz];show sg * (ae a).2=_;rw [hkp]
     have hz2:z.2=a.1:=by rw [←hz];rfl
     have hz0:z.1 ≠ 0:=by rw [hz1];rcases hsg with rfl|rfl<;>omega
     have hab0:ar z.1 ≠ 0:=by unfold ar;omega
     have habs:(if a.2 < 0 then -a.2 else a.2)=ar z.1:=by
      unfold ar;rw [hz1];rcases hsg with rfl|rfl<;>split<;>omega
     have hsgn:(0 < a.2 * sg ↔ 0 < z.1):=by rw [hz1,Ln]
     rw [hz];have cm:fU a.2 sg:=.inr ⟨by rcases hsg with rfl|rfl<;>decide,by rcases hsg with rfl|rfl<;>decide⟩;exists ri;exists hz1;exists hz2;exists hz;exists hsgn;exists hkp;simp! only [↓aG];refine eX h6d ?_;ac_rfl;intro q0 H8 _ e8 h8;have h8d:=e8.at h6d;have e08:=e6.trans e8;obtain⟨qv,hgv,hqv⟩:=((ri ()).ext e8).get hab0 h8;have ri8:=λ (_:Unit)=>(ri ()).ext e8;have kp8:=λ (_:Unit)=>λ b o (x1:b ≠ d) (h:H4 b=some o)=>e8.at (kp b o x1 h);clear ha6 h6d kp e6;ac_rfl;refine hU (k:=.inl (ar z.1)) h8d ?_;rw [hgv];clear hgv
     by_cases hpos:0 < a.2 * sg
     ·have hzp:=(hsgn ()).mp hpos;have hlo:loP z=0:=by unfold loP;rw [if_pos hzp]
      have hhi:hiP z=a.1 - 1:=by unfold hiP;rw [if_pos hzp,hz2 ()]
      exists hlo;exists hhi;clear hzp;ac_rfl;intro t9 H9 ht9 e9 h9;have h9d:=e9.at h8d;obtain⟨ks',rn⟩:=((ri8 ()).ext e9).put (z:=z) (tq:=t9) hz0 (by rw [h9,hlo (),hhi (),Lz,Int.add_sub_assoc]);have ru:=λ (_:Unit)=>gN.upd (o:=.dK (dg kvs (.inl (ar z.1)) (.ref t9))) rn h9d;clear rn ht9 ri8 h8d ri;ac_rfl;refine gz (k:=.inl (ar z.1)) h9d lk ?_;exact⟨ks',_,_,_,_,_,rfl,(e08.trans e9).put hd0,λ b o x1 h=>by rw [ak x1];exact e9.at (kp8 () b o x1 h),aj,ru ()⟩
     ·have hzp:¬ 0 < z.1:=λ h=>hpos ((hsgn ()).mpr h);have hlo:loP z=1 - a.1:=by unfold loP;rw [if_neg hzp,hz2 ()]
      have hhi:hiP z=0:=by unfold hiP;rw [if_neg hzp]
      exists hlo;exists hhi;clear hzp;ac_rfl;intro t9 H9 ht9 e9 h9;have h9d:=e9.at h8d;obtain⟨ks',rn⟩:=((ri8 ()).ext e9).put (z:=z) (tq:=t9) hz0 (by rw [h9,hlo (),hhi (),Lz,show cG PP (ar z.1) - a.1+1=cG PP (ar z.1)+(1 - a.1) by omega]);have ru:=λ (_:Unit)=>gN.upd (o:=.dK (dg kvs (.inl (ar z.1)) (.ref t9))) rn h9d;clear rn ht9 ri8 h8d ri;ac_rfl;refine gz (k:=.inl (ar z.1)) h9d lk ?_;exact⟨ks',_,_,_,_,_,rfl,(e08.trans e9).put hd0,λ b o x1 h=>by rw [ak x1];exact e9.at (kp8 () b o x1 h),aj,ru ()⟩
    ·have hkp:(ae a).2=0:=by unfold ae;rw [if_neg hs1]
     have rs:=λ (_:Unit)=>ri.skip (z:=sgP sg a) (by show sg * (ae a).2=0;rw [hkp,Ly]);clear ri hkp;simp! only [↓aG];exact⟨ks,kvs,_,_,_,_,rfl,e6,kp,rfl,rs ()⟩
   ·rintro _ H6 ⟨ks,kvs,v5,v6,v7,v8,rfl,e6,kp,h6d,ri⟩;rw [htl (),Lp (by rw [Kr];exact Kq _)] at ri;exact⟨ks,kvs,_,_,_,_,_,_,rfl,e6,kp,h6d,ri⟩
  ·rintro _ H5 ⟨ks,kvs,v3,v4,v5,v6,v7,v8,rfl,e5,kp,h5d,ri⟩;have ri':gN H5 (A.map (sgP 1)++B.map (sgP (-1))) ks kvs:=ri;have hPl:(A.map (sgP 1)++B.map (sgP (-1))).length<=16:=by rw [Ku,Kr,Kr];omega
   generalize A.map (sgP 1)++B.map (sgP (-1))=P' at *;have hk1:ks.length < 64:=by have:=ri'.len;omega
   exists ri';clear ri kp h4 h1_4 ht1 ht2 pA pB e04;ac_rfl;refine A4 h5d (ri' ()).e1 hk1 λ ms hpm hord=>?_;intro q6 H6 hq6 e6 h6;have h6d:=e6.at h5d;have ri6:=λ (_:Unit)=>(ri' ()).ext e6;have hms:ms.length<=64:=by rw [hpm.length_eq];omega
   exists hpm;exists hord;clear hq6;ac_rfl;have wk:=ju (K:=K) h6;refine bS (ms.map V.int) (λ _=>true) (λ z x H'=>x=z/\H' q6=some (.lst (ms.map V.int))) (λ D z y H'=>trP (vi z,cG P' (vi z),br P' (vi z)) y H') wk.1 wk.2 (λ D z y H1 H2 h e=>trP.ext (z:=(vi z,cG P' (vi z),br P' (vi z))) h e) (λ D z y H1 xs o h hD=>trP.upd (z:=(vi z,cG P' (vi z),br P' (vi z))) h hD) (au (by rw [Kr];omega)) ?_ ?_
   ·intro D z y H' N1 N0 hz hD e _ ⟨hy,_⟩ kx _;subst hy;obtain⟨t',ht',rfl⟩:=KG.mp hz;obtain⟨qv,w1,w2⟩:=((ri6 ()).ext e).v t' ((hpm ()).mem_iff.mp ht');have k1':=kx rfl;have a1:=e.at h6d;clear kx k hz wk;simp! only [↓aL,↓aI];intro t9 H9 _ e9 h9;have a19:=e9.at a1;have w29:=e9.at w2;clear a1 w2;ac_rfl;refine tO (k:=.inl t') a19 w1 ?_;ac_rfl;rw [Eb];refine⟨au (by simp),λ g H10 e10 h10=>?_⟩;exact k1' _ H10 (e9.trans e10) ⟨g,rfl,h10⟩
   ·intro D zs H7 hD e7 h7 al7;rw [fT] at al7;have hD0:H D=none:=(e5.trans e6).free hD
    have al8:Al (λ z y=>trP z y H7) (ag ms P') zs:=by
     refine⟨by rw [al7.1];unfold ag;rw [length_map,length_map],λ i z y hz hy=>?_⟩;unfold ag at hz;rw [getElem?_map] at hz;obtain⟨t',ht',rfl⟩:=Option.map_eq_some_iff.mp hz;exact al7.2 i (.int t') y (by rw [getElem?_map,ht'];rfl) hy
    have al9:Al (λ z y=>trP z y H7) (ag ms.reverse P') zs.reverse:=by
     have e1:ag ms.reverse P'=(ag ms P').reverse:=by unfold ag;rw [List.map_reverse]
     rw [e1];refine⟨by rw [LY,LY];exact al8.1,λ i z y hz hy=>?_⟩;have hi:i < (ag ms P').length:=by have:=(Km.mp hz).1;rw [LY] at this;exact this
     rw [List.getElem?_reverse hi] at hz;rw [List.getElem?_reverse (by rw [al8.1];exact hi),al8.1] at hy;exact al8.2 _ z y hz hy
    have ko:ji ms.reverse P':=⟨(List.reverse_perm ms).nodup_iff.mpr ((hpm ()).nodup_iff.mpr (ri' ()).nd),by rw [LY,(hpm ()).length_eq];exact(ri' ()).len,λ t'=>by rw [List.mem_reverse];exact(hpm ()).mem_iff.trans ((ri' ()).mem t'),List.pairwise_reverse.mpr (hord ())⟩;have fin:=k () ms.reverse D (upd H7 D (.lst zs.reverse)) ((e5.trans (e6.trans e7)).put hD0) ⟨_,aj,al9.imp λ _ _ t=>trP.upd t h7⟩ ko;clear al7 al8 al9 wk ko k hD;ac_rfl
theorem wO{axs:List (Int × Int)}(h:jt axs):jt (axs.map ae):=⟨by rw [Kr];exact h.1,λ a ha=>by
 obtain⟨b,hb,rfl⟩:=KG.mp ha;exact h.2 b hb⟩
theorem iq:∀ l:List (Int × Int),(∀ a∈l,(1:Int)<=a.1)->bI (l.map ae)=bI l/\bJ (l.map ae)=bJ l
 | [],_=>⟨rfl,rfl⟩
 | a::r,h=>by
  obtain⟨i1,i2⟩:=iq r λ b hb=>h b (Ko _ hb);have ha:=h a Kp
  have e:((ae a).1 - 1) * (ae a).2=(a.1 - 1) * a.2:=by
   show (a.1 - 1) * (if a.1 > 1 then a.2 else 0)=_
   split
   ·rfl
   ·have:a.1=1:=by omega
    rw [this];simp
  rw [KZ,fq,fw,fq,fw,e,i1,i2];exact⟨rfl,rfl⟩
theorem uC:∀ {A:List (Int × Int)},(∀ a∈A,(1<=a.1/\a.1<=31)/\(-11000<=a.2/\a.2<=11000))->(-330000 * (A.length:Int)<=bI A/\bI A<=0)/\(0<=bJ A/\bJ A<=330000 * (A.length:Int))
 | [],_=>by decide
 | a::A,h=>by
  have ih:=uC (A:=A) λ b hb=>h b (Ko _ hb);obtain⟨s,p⟩:=h a Kp;have u1:=KI p.2 (show 0<=a.1 - 1 by omega);have u2:=KI p.1 (show 0<=a.1 - 1 by omega);rw [fq,fw,KY];generalize (a.1 - 1) * a.2=x at *;omega
def AxV(H:Hp)(Z:List (Int × Int))(x:V):Prop:=∃ l,x=.ref l/\cx H l Z/\AxK Z
theorem AxV.ext{H H':Hp}{Z:List (Int × Int)}{x:V}(h:AxV H Z x)(e:Ext H H'):AxV H' Z x:=by
 obtain⟨l,h1,h2,h3⟩:=h;exact⟨l,h1,ay h2 e,h3⟩
abbrev i4(C:Addr)(p:Addr)(q:Addr)(g:Int)(lo:Int)(mo:Int)(H:Hp)(Q:VK)(E:XK):Prop:=∃ A B:List (Int × Int),cx H p A/\cx H q B/\AxK A/\AxK B/\(0<=lo/\lo < 4)/\(0<=mo/\mo < 4)/\(-10000000<=g/\g<=10000000)/\∀ (room f:Int) (x1 x2 r:Addr) (H':Hp),Ext H H'->H' r=some (.tup [.ref x1,.ref x2])->bc C H' x1 room f (A.map ae)->bc C H' x2 room (f+g) (B.map ae)->Q (.ref r) H'
def iu(C:Addr):Sp:=λ vs H Q E=>∃ (p:Addr) (q:Addr) (g:Int) (lo:Int) (mo:Int),vs=[.ref p,.ref q,.int g,.int lo,.int mo]/\(i4 C p q g lo mo H Q E)
theorem iX(C:Addr)(p:Addr)(q:Addr)(g:Int)(lo:Int)(mo:Int)(H:Hp)(Q:VK)(E:XK):iu C [.ref p,.ref q,.int g,.int lo,.int mo] H Q E=(i4 C p q g lo mo H Q E):=JT (f:=λ (p:Addr) (q:Addr) (g:Int) (lo:Int) (mo:Int)=>[.ref p,.ref q,.int g,.int lo,.int mo]) (λ _ _ _ _ _ _ _ _ _ _ h=>by cases h;exact⟨rfl,rfl,rfl,rfl,rfl⟩) p q g lo mo
theorem o8(C:Addr){vs:List V}{H:Hp}{Q:VK}{E:XK}(h:iu C vs H Q E):vs.length=5:=JV h λ _ _ _ _ _=>rfl
theorem eV(T:Tx K mg t):bq P w K mg base CX0 8 t.a__law_placed t.d__law_placed ["_law_one", "_law_other", "_law_goal_here", "_law_low", "_law_more"] (iu t.a_View):=by
 have G_View___init__:=%[gK|47];refine T.F__law_placed.ok bW (λ vs H Q E h=>o8 _ h) (λ cdv A' outer s H vs Q E hr h=>?_)
 ·obtain⟨p,q,g,lo,mo,rfl,A,B,pA,pB,kA,kB,hlo,hmo,hg,k⟩:=h;refine⟨_,%[%[(["_law_axes_here", "_law_one", "_law_other", "_law_goal_here", "_law_low", "_law_more", "_law_least", "_law_greatest", "_law_first", "_law_room"]),(1),(5),_,bW.nd,rfl,(Or.inl rfl),(aD (aa bV) ["_law_one", "_law_other", "_law_goal_here", "_law_low", "_law_more", "_law_least", "_law_greatest", "_law_first", "_law_room"] rfl rfl nofun),rfl,%[%[%[%[0|0],%[%[1|0]|1]|1]|24]|20],(λ C s₀ H₀ ex pn=>%[(0),_,(show List.Nodup (["_law_axes_here", "_law_one", "_law_other", "_law_goal_here", "_law_low", "_law_more", "_law_least", "_law_greatest", "_law_first", "_law_room"]:List Str) from by decide +kernel),rfl,(Or.inl rfl),%[0|7]|17]),(λ C s₀ H₀ ex pn=>(@aH _)),(λ C s₀ H₀ ex pn=>%[sum,(bz rfl),%[%[(["_law_size", "_law_pace", "_law_axes_here", "_law_one", "_law_other", "_law_goal_here", "_law_low", "_law_more", "_law_least", "_law_greatest", "_law_first", "_law_room"]),(2),(aD _ ["_law_axes_here", "_law_one", "_law_other", "_law_goal_here", "_law_low", "_law_more", "_law_least", "_law_greatest", "_law_first", "_law_room"] rfl rfl (by kernel_rfl)),rfl,(@uL _ _ _ _ (K) rfl %[0|0]),(λ C s₀ H₀ ex pn=>(%[(2),rfl,%[%[(0),_,(show List.Nodup (["_law_size", "_law_pace", "_law_axes_here", "_law_one", "_law_other", "_law_goal_here", "_law_low", "_law_more", "_law_least", "_law_greatest", "_law_first", "_law_room"]:List Str) from by decide +kernel),rfl,(Or.inl rfl),%[0|7]|17],%[%[(1),_,(show List.Nodup (["_law_size", "_law_pace", "_law_axes_here", "_law_one", "_law_other", "_law_goal_here", "_law_low", "_law_more", "_law_least", "_law_greatest", "_law_first", "_law_room"]:List Str) from by decide +kernel),rfl,(Or.inl rfl),%[0|7]|17],(@aA _),∅|15],∅|15],∅,∅|22].mono λ _ _ _ _ h=>aU h)),(λ C s₀ H₀ ex pn=>(@aH _)),(λ C s₀ H₀ ex pn=>%[min,(ei rfl),%[%[0|2],%[%[bh,%[1|0],%[aF,%[0|0],%[0|2]|10]|10]|1]|1]|6]),(by intros;rfl)|21]|1]|6]),∅,(by intros;rfl),%[0|7]|44],%[%[(["_law_axes_here", "_law_one", "_law_other", "_law_goal_here", "_law_low", "_law_more", "_law_least", "_law_greatest", "_law_first", "_law_room"]),(1),(6),_,bW.nd,rfl,(Or.inl rfl),(aD (aa bV) ["_law_one", "_law_other", "_law_goal_here", "_law_low", "_law_more", "_law_least", "_law_greatest", "_law_first", "_law_room"] rfl rfl nofun),rfl,%[%[%[%[0|0],%[%[1|0]|1]|1]|24]|20],(λ C s₀ H₀ ex pn=>%[(0),_,(show List.Nodup (["_law_axes_here", "_law_one", "_law_other", "_law_goal_here", "_law_low", "_law_more", "_law_least", "_law_greatest", "_law_first", "_law_room"]:List Str) from by decide +kernel),rfl,(Or.inl rfl),%[0|7]|17]),(λ C s₀ H₀ ex pn=>(@aH _)),(λ C s₀ H₀ ex pn=>%[sum,(bz rfl),%[%[(["_law_size", "_law_pace", "_law_axes_here", "_law_one", "_law_other", "_law_goal_here", "_law_low", "_law_more", "_law_least", "_law_greatest", "_law_first", "_law_room"]),(2),(aD _ ["_law_axes_here", "_law_one", "_law_other", "_law_goal_here", "_law_low", "_law_more", "_law_least", "_law_greatest", "_law_first", "_law_room"] rfl rfl (by kernel_rfl)),rfl,(@uL _ _ _ _ (K) rfl %[0|0]),(λ C s₀ H₀ ex pn=>(%[(2),rfl,%[%[(0),_,(show List.Nodup (["_law_size", "_law_pace", "_law_axes_here", "_law_one", "_law_other", "_law_goal_here", "_law_low", "_law_more", "_law_least", "_law_greatest", "_law_first", "_law_room"]:List Str) from by decide +kernel),rfl,(Or.inl rfl),%[0|7]|17],%[%[(1),_,(show List.Nodup (["_law_size", "_law_pace", "_law_axes_here", "_law_one", "_law_other", "_law_goal_here", "_law_low", "_law_more", "_law_least", "_law_greatest", "_law_first", "_law_room"]:List Str) from by decide +kernel),rfl,(Or.inl rfl),%[0|7]|17],(@aA _),∅|15],∅|15],∅,∅|22].mono λ _ _ _ _ h=>aU h)),(λ C s₀ H₀ ex pn=>(@aH _)),(λ C s₀ H₀ ex pn=>%[max,(dm rfl),%[%[0|2],%[%[bh,%[1|0],%[aF,%[0|0],%[0|2]|10]|10]|1]|1]|6]),(by intros;rfl)|21]|1]|6]),∅,(by intros;rfl),%[0|7]|44],%[%[7,bW,%[aJ,%[max,(dm rfl),%[%[aF,%[0|2],%[aB,%[5|0],%[0|2],(λ _ _=>rfl)|11]|10],%[%[aF,%[aF,%[0|2],%[2|0]|10],%[aB,%[5|0],%[0|2],(λ _ _=>rfl)|11]|10]|1]|1]|6],%[3|0]|10]|4],%[%[8,bW,%[aJ,%[aJ,%[max,(dm rfl),%[%[aJ,%[7|0],%[aB,%[6|0],%[0|2],(λ _ _=>rfl)|11]|10],%[%[aJ,%[aJ,%[7|0],%[2|0]|10],%[aB,%[6|0],%[0|2],(λ _ _=>rfl)|11]|10]|1]|1]|6],%[0|2]|10],%[4|0]|10]|4],%[%[%[%[(@qd _ _ _ _ _ _ _ _ _ _ _ _ _ _ _ _ _ T.mk_View G_View___init__ (hr.mono ⋯) ∅ T.m_View T.b_View___init__ .nil tD %[%[8|0],%[%[7|0],%[%[eO,∅,T.z_list,nofun,%[%[0|0]|1],⋯,⋯,∅,∅|40]|1]|1]|1] ⋯ ∅ ∅),%[(@qd _ _ _ _ _ _ _ _ _ _ _ _ _ _ _ _ _ T.mk_View G_View___init__ (hr.mono ⋯) ∅ T.m_View T.b_View___init__ .nil tD %[%[8|0],%[%[aJ,%[7|0],%[2|0]|10],%[%[eO,∅,T.z_list,nofun,%[%[1|0]|1],⋯,⋯,∅,∅|40]|1]|1]|1] ⋯ ∅ ∅)|1]|1]|18]|13]|12]|9]|9]|9]|9],?_⟩;rw [show start ["_law_one", "_law_other", "_law_goal_here", "_law_low", "_law_more", "_law_least", "_law_greatest", "_law_first", "_law_room"] [.ref p,.ref q,.int g,.int lo,.int mo]=[some (.ref p),some (.ref q),some (.int g),some (.int lo),some (.int mo),none,none,none,none] from rfl];clear G_View___init__;obtain⟨ta,hpa,alA⟩:=pA;obtain⟨tb,hqb,alB⟩:=pB;exists k;exists alA;exists alB;ac_rfl;intro l1 H1 hl1 e1 h1;have cA:AxV H1 A (.ref p):=⟨p,rfl,⟨ta,e1.at hpa,(alA ()).imp λ _ _ t=>axP.ext t e1⟩,kA⟩;have cB:AxV H1 B (.ref q):=⟨q,rfl,⟨tb,e1.at hqb,(alB ()).imp λ _ _ t=>axP.ext t e1⟩,kB⟩;have al1:Al (λ Z y=>AxV H1 Z y) [A,B] [.ref p,.ref q]:=Al.cons' cA (Al.cons' cB Al.nil);have wk:=fV (K:=K) (R:=λ Z x H'=>AxV H' Z x) (λ _ _ _ _ h e=>h.ext e) h1 al1;exists cA;exists cB;clear hl1 al1;ac_rfl;refine aP [A,B] (λ _=>true) (λ Z=>.int (bI Z)) (λ Z x H'=>AxV H' Z x) wk.1 wk.2 (au (by simp)) ?_ ?_
  ·intro D Z x H' N1 N0 hZ hD e hx k1 _;obtain⟨lz,rfl,⟨tz,hlz,alz⟩,kz⟩:=hx;have k1':=λ (_:Unit)=>k1 rfl;have hz3:=kz.len;have kzs:=λ (_:Unit)=>kz.sz;have wk2:=fV (K:=K) (R:=axP) (λ _ _ _ _ h e=>h.ext e) hlz alz;clear k1 wk k cA cB;simp! only [↓aL,↓aI];refine aP Z (λ _=>true) (λ a=>.int (min 0 ((a.1 - 1) * a.2))) axP wk2.1 wk2.2 (au %[0|8]) ?_ ?_
   ·intro D2 a x H2 M1 M0 ha hD2 e2 ⟨aq,hx,haq⟩ k2 _;subst hx;have k2':M1 (.int (min 0 ((a.1 - 1) * a.2))) H2:=k2 rfl H2 (Ext.refl _);have hz:=kzs () a ha;have cm:fU a.2 (a.1 - 1):=.inr ⟨by omega,by omega⟩;rw [Jj,Ln] at k2';clear k2 ha wk2 k1';simp! only [↓bP,↓aI]
   ·intro D2 H2 hD2 e2 h2;have h2':H2 D2=some (.lst ((Z.map λ a=>min 0 ((a.1 - 1) * a.2)).map V.int)):=by rw [h2,fT,Lh];rfl
    have hsum:(Z.map λ a=>min 0 ((a.1 - 1) * a.2)).sum=bI Z:=rfl;have k3:=k1' () H2 e2;clear h2 wk2 k1';ac_rfl
  intro D3 H3 hD3 e3 h3;rw [fT] at h3;have h3':H3 D3=some (.lst [.int (bI A),.int (bI B)]):=h3;clear h3 wk hD3;ac_rfl;intro l4 H4 _ e4 h4;have cA4:AxV H4 A (.ref p):=(cA ()).ext (e3.trans e4);have cB4:AxV H4 B (.ref q):=(cB ()).ext (e3.trans e4);have wk:=fV (K:=K) (R:=λ Z x H'=>AxV H' Z x) (λ _ _ _ _ h e=>h.ext e) h4 (Al.cons' cA4 (Al.cons' cB4 Al.nil));have h3_4:=e4.at h3';clear cA4 cB4 h3';ac_rfl;refine aP [A,B] (λ _=>true) (λ Z=>.int (bJ Z)) (λ Z x H'=>AxV H' Z x) wk.1 wk.2 (au (by simp)) ?_ ?_
  ·intro D Z x H' N1 N0 hZ hD e hx k1 _;obtain⟨lz,rfl,⟨tz,hlz,alz⟩,kz⟩:=hx;have k1':=λ (_:Unit)=>k1 rfl;have hz3:=kz.len;have kzs:=λ (_:Unit)=>kz.sz;have wk2:=fV (K:=K) (R:=axP) (λ _ _ _ _ h e=>h.ext e) hlz alz;clear k1 wk k cA cB;simp! only [↓aL,↓aI];refine aP Z (λ _=>true) (λ a=>.int (max 0 ((a.1 - 1) * a.2))) axP wk2.1 wk2.2 (au %[0|8]) ?_ ?_
   ·intro D2 a x H2 M1 M0 ha hD2 e2 ⟨aq,hx,haq⟩ k2 _;subst hx;have k2':M1 (.int (max 0 ((a.1 - 1) * a.2))) H2:=k2 rfl H2 (Ext.refl _);have hz:=kzs () a ha;have cm:fU a.2 (a.1 - 1):=.inr ⟨by omega,by omega⟩;rw [Jk,Ln] at k2';clear k2 ha wk2 k1';simp! only [↓bP,↓aI]
   ·intro D2 H2 hD2 e2 h2;have h2':H2 D2=some (.lst ((Z.map λ a=>max 0 ((a.1 - 1) * a.2)).map V.int)):=by rw [h2,fT,Lh];rfl
    have hsum:(Z.map λ a=>max 0 ((a.1 - 1) * a.2)).sum=bJ Z:=rfl;have k3:=k1' () H2 e2;clear h2 wk2 k1';ac_rfl
  intro D5 H5 hD5 e5 h5;rw [fT] at h5;have h5':H5 D5=some (.lst [.int (bJ A),.int (bJ B)]):=h5;have h3_5:=e5.at h3_4;clear h5 wk hD5 h3_4;obtain⟨⟨la1,la2⟩,la3,la4⟩:=uC kA.sz;obtain⟨⟨lb1,lb2⟩,lb3,lb4⟩:=uC kB.sz;have nA:=kA.len;have nB:=kB.len;have axA:jt A:=⟨by omega,λ a ha=>by have:=(kA.sz a ha).1;omega⟩;have axB:jt B:=⟨by omega,λ a ha=>by have:=(kB.sz a ha).1;omega⟩;obtain⟨sA1,sA2⟩:=iq A λ a ha=>(axA.2 a ha).1;obtain⟨sB1,sB2⟩:=iq B λ a ha=>(axB.2 a ha).1;have e05:=e1.trans (e3.trans (e4.trans e5));have hpa5:=e05.at hpa;have hqb5:=e05.at hqb;obtain⟨fx,hfx⟩:∃ fx,(if 0 - bI A < 0 - g - bI B then 0 - g - bI B else 0 - bI A)=fx:=⟨_,rfl⟩
  have fx1:0 - bI A<=fx/\0 - g - bI B<=fx/\fx<=20000000:=by rw [←hfx];split<;>omega
  obtain⟨f,hf⟩:∃ f,fx+lo=f:=⟨_,rfl⟩;obtain⟨lx,hlx⟩:∃ lx,(if f+bJ A < f+g+bJ B then f+g+bJ B else f+bJ A)=lx:=⟨_,rfl⟩
  have lx1:f+bJ A<=lx/\f+g+bJ B<=lx/\lx<=90000000:=by rw [←hlx];split<;>omega
  obtain⟨room,hroom⟩:∃ room,lx+1+mo=room:=⟨_,rfl⟩;have vA:pT room f A:=⟨axA,by omega,by omega,by rw [sA1];omega,by rw [sA2];omega⟩;have vB:pT room (f+g) B:=⟨axB,by omega,by omega,by rw [sB1];omega,by rw [sB2];omega⟩;clear la1 la2 la3 la4 lb1 lb2 lb3 lb4 sA1 sA2 sB1 sB2 axA axB fx1 lx1 nA nB cA cB;ac_rfl;intro q6 H6 _ e6 h6;have hqb6:=e6.at hqb5;have al6:Al (λ z y=>axP z y H6) A ta:=(alA ()).imp λ _ _ t=>axP.ext t (e05.trans e6);clear hpa5;ac_rfl;intro x1 dx1 G1 hx1 hdx1 hne1 g1 k1 k1';rw [mJ];refine⟨dx1,A,k1,dj.ext ⟨ta,h6,tN al6⟩ g1,vA,λ G2 D2 g2' hD2 hx2 tt2=>?_⟩;have eg:=g2' H6 g1 hx1;have vo1:bc t.a_View G2 x1 room f (A.map ae):=⟨dx1,D2,hx2,tt2⟩;have hqb7:=eg.at hqb6;have e07:=e05.trans (e6.trans eg);clear h6 al6 hqb6 k1 k1' hx1 hdx1 hne1 g1 g2' hD2 hx2 tt2;ac_rfl;intro q8 G3 _ e8 h8;have al8:Al (λ z y=>axP z y G3) B tb:=(alB ()).imp λ _ _ t=>axP.ext t (e07.trans e8);clear hqb7;ac_rfl;intro x2 dx2 G4 hx2 hdx2 hne2 g4 k4 k4';rw [mJ];refine⟨dx2,B,k4,dj.ext ⟨tb,h8,tN al8⟩ g4,vB,λ G5 D5' g5' hD5 hx5 tt5=>?_⟩;have eg2:=e8.trans (g5' G3 g4 hx2);have vo2:bc t.a_View G5 x2 room (f+g) (B.map ae):=⟨dx2,D5',hx5,tt5⟩;clear h8 al8 k4 k4' hx2 hdx2 hne2 g4 g5' hD5 hx5 tt5;ac_rfl;intro rr G6 _ e9 h9;exact k () room f x1 x2 rr G6 (e07.trans (eg2.trans e9)) h9 (vo1.ext (eg2.trans e9)) (vo2.ext e9)
theorem oG:∀ {A:List (Int × Int)}{ys:List Int},InA A ys->InA (A.map ae) ys
 | [],[],_=>trivial
 | [],_::_,h=>h.elim
 | _::_,[],h=>h.elim
 | _::_,_::_,h=>⟨h.1,oG h.2⟩
theorem oI:∀ {A:List (Int × Int)}{ys:List Int},InA (A.map ae) ys->InA A ys
 | [],[],_=>trivial
 | [],_::_,h=>h.elim
 | _::_,[],h=>h.elim
 | _::_,_::_,h=>⟨h.1,oI h.2⟩
theorem fD:∀ {A:List (Int × Int)}{ys:List Int},InA A ys->eS (A.map ae) ys=eS A ys
 | [],[],_=>rfl
 | [],_::_,h=>h.elim
 | _::_,[],h=>h.elim
 | a::A,y::ys,h=>by
  show (if a.1 > 1 then a.2 else 0) * y+eS (A.map ae) ys=a.2 * y+eS A ys
  rw [fD h.2]
  by_cases h1:a.1 > 1
  ·rw [Kx h1]
  ·have hy:y=0:=by have:=h.1;omega
   rw [Ks h1,hy,Ly,Ly]
structure PuK(P:List (Int × Int)):Prop where
 len:P.length<=6
 sz:∀ z∈P,(1<=z.2/\z.2<=31)/\(-11000<=z.1/\z.1<=11000)/\(z.1 ≠ 0->2<=z.2)
 prod:(P.foldr (λ z r=>z.2 * r) 1)<=30000
theorem ql(f:Int × Int->Int):∀ l m:List (Int × Int),(l++m).foldr (λ z r=>f z * r) 1=l.foldr (λ z r=>f z * r) 1 * m.foldr (λ z r=>f z * r) 1
 | [],m=>(Int.one_mul _).symm
 | a::l,m=>by
  show f a * ((l++m).foldr (λ z r=>f z * r) 1)=f a * l.foldr (λ z r=>f z * r) 1 * _
  rw [ql f l m,LJ]
theorem lj(g:Int × Int->Int × Int)(h:∀ a,(g a).2=a.1):∀ l:List (Int × Int),(l.map g).foldr (λ z r=>z.2 * r) 1=l.foldr (λ a r=>a.1 * r) 1
 | []=>rfl
 | a::l=>by
  show (g a).2 * (l.map g).foldr (λ z r=>z.2 * r) 1=a.1 * l.foldr (λ a r=>a.1 * r) 1
  rw [h,lj g h l]
def PrK(A B:List (Int × Int)):Prop:=nP A * nP B<=30000
theorem PrK.symm{A B:List (Int × Int)}(h:PrK A B):PrK B A:=by unfold PrK at h ⊢;rw [Int.mul_comm];exact h
theorem AxK.pull{A B:List (Int × Int)}(hA:AxK A)(hB:AxK B)(hp:PrK A B):PuK (ai (A.map ae) (B.map ae)):=by
 rw [fX]
 have sgz:∀ (sg:Int) (a:Int × Int),(sg=1\/sg=-1)->((1<=a.1/\a.1<=31)/\(-11000<=a.2/\a.2<=11000))->(1<=(sgP sg a).2/\(sgP sg a).2<=31)/\(-11000<=(sgP sg a).1/\(sgP sg a).1<=11000)/\((sgP sg a).1 ≠ 0->2<=(sgP sg a).2):=λ sg a hs h=>by
  show (1<=a.1/\a.1<=31)/\(-11000<=sg * (if a.1 > 1 then a.2 else 0)/\sg * (if a.1 > 1 then a.2 else 0)<=11000)/\(sg * (if a.1 > 1 then a.2 else 0) ≠ 0->2<=a.1)
  by_cases h1:a.1 > 1
  ·rw [Kx h1]
   rcases hs with rfl|rfl<;>omega
  ·rw [Ks h1,Ly];omega
 have pA:=dk λ a ha=>(hA.sz a ha).1.1;have pB:=dk λ a ha=>(hB.sz a ha).1.1;refine⟨by rw [Ku,Kr,Kr];have:=hA.len;have:=hB.len;omega,λ z hz=>?_,?_⟩
 ·rcases K4.mp hz with hz|hz
  ·obtain⟨a,ha,rfl⟩:=KG.mp hz;exact sgz 1 a (.inl rfl) (hA.sz a ha)
  ·obtain⟨a,ha,rfl⟩:=KG.mp hz;exact sgz (-1) a (.inr rfl) (hB.sz a ha)
 ·have e:=ql (λ z=>z.2) (A.map (sgP 1)) (B.map (sgP (-1)));rw [e,lj _ (λ _=>rfl),lj _ (λ _=>rfl)];exact hp
theorem u9:∀ {P:List (Int × Int)}{z:Int × Int},(∀ y∈P,(1:Int)<=y.2)->z∈P->z.2 - 1<=cW P (ar z.1)
 | y::P,z,h,hz=>by
  have hP:∀ x∈P,(1:Int)<=x.2:=λ x hx=>h x (Ko _ hx);have hn:=gB hP (ar z.1);have hy:=h y Kp;rw [cv]
  rcases KS.mp hz with rfl|hz
  ·rw [Kx rfl];omega
  ·have:=u9 hP hz
   split<;>omega
theorem uB:∀ {P:List (Int × Int)},(∀ y∈P,1<=y.2/\y.2<=31)->∀ t,cW P t<=30 * (P.length:Int)
 | [],_,t=>K3 0
 | y::P,h,t=>by
  have ih:=uB (P:=P) (λ x hx=>h x (Ko _ hx)) t;have hy:=h y Kp;rw [cv,KY]
  split<;>omega
theorem Ah:∀ {P:List (Int × Int)},(∀ y∈P,(1:Int)<=y.2)->∀ t,cG P t<=0/\0<=br P t
 | [],_,_=>⟨K3 _,K3 _⟩
 | y::P,h,t=>by
  have ih:=Ah (P:=P) (λ x hx=>h x (Ko _ hx)) t;have hy:=h y Kp
  have l1:loP y<=0:=by unfold loP;split<;>omega
  have l2:0<=hiP y:=by unfold hiP;split<;>omega
  show (if ar y.1=t then loP y else 0)+cG P t<=0/\0<=(if ar y.1=t then hiP y else 0)+br P t
  split<;>omega
theorem PuK.tms{P:List (Int × Int)}{ks:List Int}(h:PuK P)(hk:ji ks P):cX (ag ks P)/\2 * b6 ks (cW P) - 1<=59999:=by
 have one:∀ y∈P,(1:Int)<=y.2:=λ y hy=>(h.sz y hy).1.1;refine⟨⟨by unfold ag;rw [length_map];have:=hk.len;have:=h.len;omega,λ z hz=>?_⟩,?_⟩
 ·unfold ag at hz;obtain⟨t,ht,rfl⟩:=List.mem_map.mp hz;obtain⟨t0,y,hy,e⟩:=(hk.mem t).mp ht;have hs:=h.sz y hy;have hy0:y.1 ≠ 0:=λ q=>t0 (by rw [←e,q];rfl);have h2:=hs.2.2 hy0;have hc:=u9 one hy;have hc2:=uB (λ x hx=>(h.sz x hx).1) t;have hl:=Ah one t;have hhl:=fE P t;rw [e] at hc;have hlen:=h.len;have ht':1<=t/\t<=11000:=by rw [←e];unfold ar;omega
  show (1<=t/\t<=2000000000000000000)/\(-2000000000<=cG P t/\cG P t<=2000000000)/\cG P t < br P t/\br P t<=2000000000
  omega
 ·have:=qc hk.nd one;have:=h.prod;omega
theorem xC{A B:List (Int × Int)}{most:Int}(hA:AxK A)(hB:AxK B)(hp:PrK A B)(hm:∀ ks,ji ks (ai (A.map ae) (B.map ae))->2 * b6 ks (cW (ai (A.map ae) (B.map ae))) - 1<=most):JK (A.map ae) (B.map ae) most:=by
 refine⟨λ ks hk=>?_⟩;obtain⟨t1,t2⟩:=(AxK.pull hA hB hp).tms hk;exact⟨t1,by omega,hm ks hk⟩
theorem Ej{A B:List (Int × Int)}{g:Int}{ks xs:List Int}{pp:List (List V)}(h:qR (A.map ae) (B.map ae) g ks (some xs) pp):InA A ((plF ks (ai (A.map ae) (B.map ae)) xs).take A.length)/\InA B ((plF ks (ai (A.map ae) (B.map ae)) xs).drop A.length)/\eS A ((plF ks (ai (A.map ae) (B.map ae)) xs).take A.length)=g+eS B ((plF ks (ai (A.map ae) (B.map ae)) xs).drop A.length):=by
 obtain⟨x1,x2,_⟩:=h.sh xs rfl;obtain⟨i1,i2⟩:=ke x1;rw [Kr] at i1 i2;have hd:=x2;have e:=gU i1 i2;rw [List.take_append_drop,hd] at e;have k1:=oI i1;have k2:=oI i2;rw [fD k1,fD k2] at e;exact⟨k1,k2,by omega⟩
theorem uD{zs:List Tm3}{cs:List (Int × Int)}(h:cs.length=zs.length):zs.zip cs=(List.range zs.length).map λ k=>(zs.getD k default,cs.getD k default):=by
 apply List.ext_getElem?;intro i;rw [KH]
 by_cases hi:i < zs.length
 ·rw [MU hi]
  show _=some (zs.getD i default,cs.getD i default)
  rw [Ld,Ky,Ky,Kk hi,Kk (show i < cs.length by omega)];exact⟨rfl,rfl⟩
 ·rw [LG (by rw [Lq];omega),LG (by rw [Lw];omega)];rfl
theorem yC{zs:List Tm3}{cs:List (Int × Int)}(h:cs.length=zs.length):((List.range zs.length).map λ k=>(zs.getD k default).1 * (cs.getD k default).1).sum=dW zs cs/\((List.range zs.length).map λ k=>(zs.getD k default).1 * (cs.getD k default).2).sum=gy zs cs:=by
 unfold dW gy;rw [uD h,map_map,map_map];exact⟨rfl,rfl⟩
theorem p6{zs:List Tm3}{cs:List (Int × Int)}(h:cs.length=zs.length):(((List.range zs.length).filter λ k=>decide ((cs.getD k default).1 < (cs.getD k default).2)).map λ k=>(zs.getD k default).1)=b9 zs cs:=by
 unfold b9;rw [uD h,List.filter_map,map_map];rfl
theorem Dy{zs:List Tm3}(h:cX zs){k:Nat}(hk:k < zs.length):1<=(zs.getD k default).1/\(zs.getD k default).1<=2000000000000000000:=by
 rw [Ky,Kk hk];exact(h.all _ (Lu hk)).1
abbrev mX  (p:Addr) (q:Addr) (H:Hp) (Q:VK) (E:XK):Prop:=∃ (zs:List Tm3) (cs:List (Int × Int)),gL H p zs/\cx H q cs/\cX zs/\cs.length=zs.length/\∀ (r:Addr) (H':Hp),Ext H H'->H' r=some (.tup [.int (dW zs cs),.int (gy zs cs)])->Q (.ref r) H'
def nY  : Sp:=λ vs H Q E=>∃ (p:Addr) (q:Addr),vs=[.ref p,.ref q]/\(mX  p q H Q E)
theorem dn  (p:Addr) (q:Addr) (H:Hp) (Q:VK) (E:XK):nY  [.ref p,.ref q] H Q E=(mX  p q H Q E):=qL (f:=λ (p:Addr) (q:Addr)=>[.ref p,.ref q]) (λ _ _ _ _ h=>by cases h;exact⟨rfl,rfl⟩) p q
theorem wz  {vs:List V}{H:Hp}{Q:VK}{E:XK}(h:nY  vs H Q E):vs.length=2:=qM h λ _ _=>rfl
theorem eA(T:Tx K mg t):bq P w K mg base CX0 1 t.a__law_sums t.d__law_sums ["_law_terms_here", "_law_case"] nY:=by
 refine T.F__law_sums.ok iY (λ vs H Q E h=>wz h) (λ c A o s H vs Q E hr h=>?_)
 ·obtain⟨p,q,rfl,zs,cs,⟨ts,hp,al⟩,⟨xs,hq,bl⟩,ht,hcl,k⟩:=h;refine⟨_,%[%[2,iY,%[sum,(bz rfl),%[%[(["_law_k", "_law_terms_here", "_law_case", "_law_least"]),(1),(aD (aa cC) ["_law_terms_here", "_law_case", "_law_least"] rfl rfl nofun),rfl,%[∅,T.z_range,%[%[len,az,%[%[0|0]|1]|6]|1],∅|35],(λ C s₀ H₀ ex pn=>%[(0),_,(show List.Nodup (["_law_k", "_law_terms_here", "_law_case", "_law_least"]:List Str) from by decide +kernel),rfl,(Or.inl rfl),%[0|7]|17]),(λ C s₀ H₀ ex pn=>(@aH _)),(λ C s₀ H₀ ex pn=>%[bh,%[aB,%[aB,%[1|0],%[0|0],(λ _ _=>rfl)|11],%[0|2],(λ _ _=>rfl)|11],%[aB,%[aB,%[2|0],%[0|0],(λ _ _=>rfl)|11],%[0|2],(λ _ _=>rfl)|11]|10]),(by intros;rfl)|21]|1]|6]|4],%[%[%[%[%[2|0],%[%[sum,(bz rfl),%[%[(["_law_k", "_law_terms_here", "_law_case", "_law_least"]),(1),(aD (aa cC) ["_law_terms_here", "_law_case", "_law_least"] rfl rfl nofun),rfl,%[∅,T.z_range,%[%[len,az,%[%[0|0]|1]|6]|1],∅|35],(λ C s₀ H₀ ex pn=>%[(0),_,(show List.Nodup (["_law_k", "_law_terms_here", "_law_case", "_law_least"]:List Str) from by decide +kernel),rfl,(Or.inl rfl),%[0|7]|17]),(λ C s₀ H₀ ex pn=>(@aH _)),(λ C s₀ H₀ ex pn=>%[bh,%[aB,%[aB,%[1|0],%[0|0],(λ _ _=>rfl)|11],%[0|2],(λ _ _=>rfl)|11],%[aB,%[aB,%[2|0],%[0|0],(λ _ _=>rfl)|11],%[0|2],(λ _ _=>rfl)|11]|10]),(by intros;rfl)|21]|1]|6]|1]|1]|18]|13]|12]|9],?_⟩;rw [show start ["_law_terms_here", "_law_case", "_law_least"] [.ref p,.ref q]=[some (.ref p),some (.ref q),none] from rfl];have h17:=ht.len;have htl:ts.length=zs.length:=al.1;obtain⟨sm1,sm2⟩:=yC hcl;exists k;exists al;exists bl;exists sm1;exists sm2;ac_rfl;refine⟨by omega,by omega,?_⟩;refine aP (List.range ((zs.length:Int)).toNat) (λ _=>true) (λ k=>.int ((zs.getD k default).1 * (cs.getD k default).1)) (λ j x H'=>x=.int (0+(j:Nat))) cp.1 cp.2 (au (by rw [Lw];omega)) ?_ ?_
  ·intro D k x H' N1 N0 hk hD e hx k1 _;subst hx;have hkr:=K5.mp hk;have hkz:k < zs.length:=by omega
   have hkc:k < cs.length:=by omega
   obtain⟨c1,c2,hu⟩:=eU (bl ()) hkc;obtain⟨z1,z2,hz⟩:=lZ (al ()) hkz;have hp':=e.at hp;have hq':=e.at hq;have hu':=e.at hu;have hz':=e.at hz;have tt:=Dy ht hkz;have k1':N1 (.int ((zs.getD k default).1 * (cs.getD k default).1)) H':=k1 rfl H' (Ext.refl _);have cm:fU (zs.getD k default).1 (cs.getD k default).1:=.inl ⟨by omega,by omega⟩;generalize zs.getD k default=zi at *;generalize cs.getD k default=ci at *;clear k1 hk hp hq hu hz sm1 sm2;simp! only [↓aL,↓aI]
  intro D H1 hD e1 h1;rw [fT,La,show ((List.range zs.length).map λ k=>V.int ((zs.getD k default).1 * (cs.getD k default).1))=((List.range zs.length).map λ k=>(zs.getD k default).1 * (cs.getD k default).1).map V.int by rw [Lh];rfl] at h1;have hp1:=e1.at hp;have sm1':=sm1 ();generalize ((List.range zs.length).map λ k=>(zs.getD k default).1 * (cs.getD k default).1)=ls at h1 sm1';clear hD sm1;ac_rfl;refine⟨by omega,by omega,?_⟩;clear sm1' h1;refine aP (List.range ((zs.length:Int)).toNat) (λ _=>true) (λ k=>.int ((zs.getD k default).1 * (cs.getD k default).2)) (λ j x H'=>x=.int (0+(j:Nat))) cp.1 cp.2 (au (by rw [Lw];omega)) ?_ ?_
  ·intro D k x H' N1 N0 hk hD e hx k1 _;subst hx;have hkr:=K5.mp hk;have hkz:k < zs.length:=by omega
   have hkc:k < cs.length:=by omega
   obtain⟨c1,c2,hu⟩:=eU (bl ()) hkc;obtain⟨z1,z2,hz⟩:=lZ (al ()) hkz;have hp':=e.at hp1;have hq':=(e1.trans e).at hq;have hu':=(e1.trans e).at hu;have hz':=(e1.trans e).at hz;have tt:=Dy ht hkz;have k1':N1 (.int ((zs.getD k default).1 * (cs.getD k default).2)) H':=k1 rfl H' (Ext.refl _);have cm:fU (zs.getD k default).1 (cs.getD k default).2:=.inl ⟨by omega,by omega⟩;generalize zs.getD k default=zi at *;generalize cs.getD k default=ci at *;clear k1 hk hp hq hu hz hp1 sm2;simp! only [↓aL,↓aI]
  intro D2 H2 hD2 e2 h2;rw [fT,La,show ((List.range zs.length).map λ k=>V.int ((zs.getD k default).1 * (cs.getD k default).2))=((List.range zs.length).map λ k=>(zs.getD k default).1 * (cs.getD k default).2).map V.int by rw [Lh];rfl] at h2;have sm2':=sm2 ();generalize ((List.range zs.length).map λ k=>(zs.getD k default).1 * (cs.getD k default).2)=gs at h2 sm2';clear hD2 sm2;ac_rfl;intro r3 H3 _ e3 h3;exact k () r3 H3 (e1.trans (e2.trans e3)) h3
abbrev qC  (p:Addr) (H:Hp) (Q:VK) (E:XK):Prop:=∃ ns:List Int,H p=some (.lst (ns.map V.int))/\(∀ n∈ns,0<=n)/\Q (.int (jg ns)) H
def tY  : Sp:=λ vs H Q E=>∃ (p:Addr),vs=[.ref p]/\(qC  p H Q E)
theorem zJ  (p:Addr) (H:Hp) (Q:VK) (E:XK):tY  [.ref p] H Q E=(qC  p H Q E):=sT (f:=λ (p:Addr)=>[.ref p]) (λ _ _ h=>by cases h;exact rfl) p
theorem yL  {vs:List V}{H:Hp}{Q:VK}{E:XK}(h:tY  vs H Q E):vs.length=1:=qN h λ _=>rfl
theorem i8(T:Tx K mg t):bq P w K mg base CX0 1 t.a__law_divisor t.d__law_divisor ["_law_numbers"] tY:=by
 refine T.F__law_divisor.ok bb (λ vs H Q E h=>yL h) (λ c A o s H vs Q E hr h=>?_)
 ·obtain⟨p,rfl,ns,hp,hn,k⟩:=h;refine⟨_,%[%[1,bb,%[0|2]|4],%[%[KP,rfl,%[%[0|0]|20],%[2,bb|5],%[%[3,bb,%[1|0]|4],%[(@kU _ _ _ _ _ _ KP %[dz,%[2|0],%[0|2],(af _)|14] %[(@Er _ _ (3) (2) _ _ _ _ _ _ _ _ _ _ _ rfl bb.nd rfl rfl ⋯ rfl rfl %[%[2|0],%[%[bt,%[3|0],%[2|0]|10]|1]|1] rfl ∅)|12]),%[%[1,bb,%[3|0]|4]|12]|9]|9],(by intros;rfl)|29],%[%[%[1|0]|13]|12]|9]|9],?_⟩;rw [show start ["_law_numbers", "_law_found", "_law_other", "_law_one"] [.ref p]=[some (.ref p),none,none,none] from rfl];exists hn;ac_rfl;refine cz (xs:=ns.map V.int) (λ i σ H'=>∃ v w:Option V,σ=[some (.ref p),some (.int (jg (ns.take i))),v,w]/\H'=H) ⟨none,none,rfl,rfl⟩ (λ i σ H' _ ⟨_,_,_,e⟩=>by rw [e];exact hp) ?_ ?_
  ·rintro i y _ _ hi ⟨v,w',rfl,rfl⟩;rename_i H;rw [KH] at hi;obtain⟨z,hz,rfl⟩:=KA.mp hi;have e1:=mF ns i z hz;have hz0:=hn () z (LM hz);have hg0:=oJ (ns.take i);generalize jg (ns.take (i+1))=g1 at *;generalize jg (ns.take i)=g0 at *;exists e1;clear hz hi k;simp! only [↓aG];refine nS (by repeat' first|exact AK|exact uv|exact mo_nI|apply k6|apply mo_unN|exact pN|exact Hb|exact pO|exact mo_rI|exact mo_rIsN|exact mo_rNotN|exact ur|exact mo_qIx|exact uu|exact oC|apply kj|apply mo_tB|apply mo_not|apply mo_and|apply mo_or|apply AL|apply mo_un|apply oE|apply mo_qLst|apply AM) (λ m σ H'=>∃ (f r:Int),σ=[some (.ref p),some (.int g0),some (.int r),some (.int f)]/\H'=H/\m=r.toNat/\0<=f/\0<=r/\Int.gcd f r=Int.gcd g0 z) _ ⟨g0,z,rfl,rfl,rfl,hg0,hz0,rfl⟩ ?_;rintro m _ _ ⟨f,r,rfl,rfl,rfl,hf,hr',hg⟩;rename_i H
   by_cases hz:r=0
   ·subst hz;have e:f=g1:=by rw [e1 (),←hg];exact(qi f hf).symm
    clear hg hn e1;ac_rfl;exact⟨_,_,rfl⟩
   ·have hp:0 < r:=by omega
    have e1:=qj f r hp hf;have e2:=LC f hp;have e3:=Lg f hz;have e4:=λ (_:Unit)=>e1.trans hg;clear hg e1 hn;ac_rfl;exact⟨_,by omega,_,_,rfl,rfl,hr',e3,e4 ()⟩
  ·rintro _ _ ⟨v,w',rfl,rfl⟩;rename_i H;have e2:jg (ns.take (ns.map V.int).length)=jg ns:=by rw [Kr,Lx]
   rw [e2];clear e2;ac_rfl
theorem zx{g l gr r:Int}(h:g < l):cK g l gr r=true:=by unfold cK;rw [decide_eq_true h];rfl
theorem zw{g l gr r:Int}(h:gr < g):cK g l gr r=true:=by unfold cK;rw [decide_eq_true h,Bool.or_true];rfl
theorem zv{g l gr r:Int}(h:1 < r)(h':(g - l) % r ≠ 0):cK g l gr r=true:=by
 unfold cK;have:=Int.emod_nonneg (g - l) (show r ≠ 0 by omega);rw [decide_eq_true h,decide_eq_true (show 0 < (g - l) % r by omega),Bool.true_and,Bool.or_true]
theorem zu{g l gr r:Int}(h1:¬ g < l)(h2:¬ gr < g)(h3:¬ 1 < r):cK g l gr r=false:=by unfold cK;rw [decide_eq_false h1,decide_eq_false h2,decide_eq_false h3];rfl
theorem zr{g l gr r:Int}(h1:¬ g < l)(h2:¬ gr < g)(h3:(g - l) % r=0):cK g l gr r=false:=by unfold cK;rw [decide_eq_false h1,decide_eq_false h2,h3,decide_eq_false (Int.lt_irrefl 0),Bool.and_false];rfl
abbrev qD  (p:Addr) (g:Int) (q:Addr) (H:Hp) (Q:VK) (E:XK):Prop:=∃ (zs:List Tm3) (cs:List (Int × Int)),gL H p zs/\cx H q cs/\cX zs/\dR zs cs/\∀ H',Ext H H'->Q (.bl (jl zs cs g)) H'
def tZ  : Sp:=λ vs H Q E=>∃ (p:Addr) (g:Int) (q:Addr),vs=[.ref p,.int g,.ref q]/\(qD  p g q H Q E)
theorem zK  (p:Addr) (g:Int) (q:Addr) (H:Hp) (Q:VK) (E:XK):tZ  [.ref p,.int g,.ref q] H Q E=(qD  p g q H Q E):=pD (f:=λ (p:Addr) (g:Int) (q:Addr)=>[.ref p,.int g,.ref q]) (λ _ _ _ _ _ _ h=>by cases h;exact⟨rfl,rfl,rfl⟩) p g q
theorem yM  {vs:List V}{H:Hp}{Q:VK}{E:XK}(h:tZ  vs H Q E):vs.length=3:=pE h λ _ _ _=>rfl
theorem lF(T:Tx K mg t):bq P w K mg base CX0 2 t.a__law_ended t.d__law_ended ["_law_terms_here", "_law_goal_here", "_law_case"] tZ:=by
 have G__law_sums:=%[eA|47];have G__law_divisor:=%[i8|47];refine T.F__law_ended.ok cV (λ vs H Q E h=>yM h) (λ c A o s H vs Q E hr h=>?_)
 ·obtain⟨p,g,q,rfl,zs,cs,hp,hq,ht,hc,k⟩:=h;refine⟨_,%[%[%[_law_sums,%[%[0|0],%[%[2|0]|1]|1]|3],(%[(2),rfl,%[%[3,cV|5],%[%[4,cV|5],(@aA _),∅|15],∅|15],∅,∅|22].mono λ _ _ _ _ h=>aU h),∅,∅,∅|38],%[%[5,cV,%[_law_divisor,%[%[(["_law_k", "_law_terms_here", "_law_goal_here", "_law_case", "_law_least", "_law_greatest", "_law_rest_here"]),(1),(aD (aa cP) ["_law_terms_here", "_law_goal_here", "_law_case", "_law_least", "_law_greatest", "_law_rest_here"] rfl rfl nofun),rfl,%[∅,T.z_range,%[%[len,az,%[%[0|0]|1]|6]|1],∅|35],(λ C s₀ H₀ ex pn=>%[(0),_,(show List.Nodup (["_law_k", "_law_terms_here", "_law_goal_here", "_law_case", "_law_least", "_law_greatest", "_law_rest_here"]:List Str) from by decide +kernel),rfl,(Or.inl rfl),%[0|7]|17]),(λ C s₀ H₀ ex pn=>(@kf _ _ _ %[cI,%[aB,%[aB,%[3|0],%[0|0],(λ _ _=>rfl)|11],%[0|2],(λ _ _=>rfl)|11],%[aB,%[aB,%[3|0],%[0|0],(λ _ _=>rfl)|11],%[0|2],(λ _ _=>rfl)|11],(af _)|14])),(λ C s₀ H₀ ex pn=>%[aB,%[aB,%[1|0],%[0|0],(λ _ _=>rfl)|11],%[0|2],(λ _ _=>rfl)|11]),(by intros;rfl)|21]|1]|3]|4],%[%[(@uj _ _ _ _ _ _ _ %[dz,%[3|0],%[1|0],(af _)|28] (@uj _ _ _ _ _ _ _ %[cI,%[4|0],%[1|0],(af _)|28] %[%[%[dz,%[5|0],%[0|2],(af _)|28],%[%[dz,%[bt,%[aF,%[1|0],%[3|0]|10],%[5|0]|10],%[0|2],(af _)|28]|33]|32]|33]))|13]|12]|9]|9],?_⟩;rw [show start ["_law_terms_here", "_law_goal_here", "_law_case", "_law_least", "_law_greatest", "_law_rest_here"] [.ref p,.int g,.ref q]=[some (.ref p),some (.int g),some (.ref q),none,none,none] from rfl];clear G__law_sums G__law_divisor;have h17:=ht.len;have hcl:=hc.len;have rs:=p6 hcl;unfold jl at k;exists k;exists rs;exists hcl;ac_rfl;rw [dn];refine⟨zs,cs,hp,hq,ht,hcl (),λ r1 H1 e1 h1=>?_⟩;obtain⟨ts,hp1,al⟩:=bO hp e1;obtain⟨xs,hq1,bl⟩:=ay hq e1;have htl:ts.length=zs.length:=al.1;exists al;exists bl;clear hp hq;ac_rfl;refine⟨by omega,by omega,?_⟩;refine aP (List.range ((zs.length:Int)).toNat) (λ k=>decide ((cs.getD k default).1 < (cs.getD k default).2)) (λ k=>.int (zs.getD k default).1) (λ j x H'=>x=.int (0+(j:Nat))) cp.1 cp.2 (au (by rw [length_range];omega)) ?_ ?_
  ·intro D k x H' N1 N0 hk hD e hx k1 k0;subst hx;have hkr:=K5.mp hk;have hkz:k < zs.length:=by omega
   have hkc:k < cs.length:=by have:=hcl ();omega
   obtain⟨c1,c2,hu⟩:=eU (bl ()) hkc;obtain⟨z1,z2,hz⟩:=lZ (al ()) hkz;have hp':=e.at hp1;have hq':=e.at hq1;have hu':=e.at hu;have hz':=e.at hz;generalize zs.getD k default=zi at *;generalize cs.getD k default=ci at *;clear hk hp1 hq1 hu hz rs
   by_cases hlt:ci.1 < ci.2
   ·have k1':N1 (.int zi.1) H':=k1 (KN hlt) H' (Ext.refl _);clear k1 k0;simp! only [↓aL,↓aI]
   ·have k0':N0 H':=k0 (KD hlt) H' (Ext.refl _);clear k1 k0;simp! only [↓aL,↓aI]
  intro D H2 hD e2 h2;rw [La,show (((List.range zs.length).filter λ k=>decide ((cs.getD k default).1 < (cs.getD k default).2)).map λ k=>V.int (zs.getD k default).1)=(b9 zs cs).map V.int by rw [←rs (),Lh];rfl] at h2
  have hnn:∀ n∈b9 zs cs,(0:Int)<=n:=λ n hn=>by
   unfold b9 at hn;obtain⟨z,hz,rfl⟩:=List.mem_map.mp hn;have:=(ht.all z.1 (of_mem_zip (show (z.1,z.2)∈zs.zip cs from (List.mem_filter.mp hz).1)).1).1;omega
  have hgn:=oJ (b9 zs cs);exists hnn;clear hD;ac_rfl;rw [zJ];refine⟨_,h2,hnn (),?_⟩;have k':=λ (_:Unit)=>k () H2 (e1.trans e2);clear k hnn h2 rs;generalize jg (b9 zs cs)=r at *;generalize dW zs cs=l at *;generalize gy zs cs=gr at *
  by_cases x1:g < l
  ·have k2:=k' ();rw [zx x1] at k2;clear k';ac_rfl
  by_cases x2:gr < g
  ·have k2:=k' ();rw [zw x2] at k2;clear k';ac_rfl
  by_cases x3:1 < r
  ·have hr0:0 < r:=by omega
   by_cases x4:0 < (g - l) % r
   ·have k2:=k' ();rw [zv x3 %[0|8]] at k2;clear k';ac_rfl
   ·have x5:(g - l) % r=0:=by have:=Lg (g - l) (show r ≠ 0 by omega);omega
    have k2:=k' ();rw [zr x1 x2 x5] at k2;clear k' x5;ac_rfl
  ·have k2:=k' ();rw [zu x1 x2 x3] at k2;clear k';ac_rfl
theorem Bh{zs:List Tm3}{cs:List (Int × Int)}{d:Int}{k:Nat}(hl:cs.length=zs.length)(h:∀ n∈b9 zs cs,d ∣ n)(hk:k < zs.length)(hlt:(cs.getD k default).1 < (cs.getD k default).2):(zs.getD k default).1 % d=0:=by
 refine My (h _ ?_);rw [←p6 hl];exact KG.mpr ⟨k,Lo.mpr ⟨K5.mpr hk,KN hlt⟩,rfl⟩
abbrev mY  (p:Addr) (g:Int) (q:Addr) (d:Int) (H:Hp) (Q:VK) (E:XK):Prop:=∃ (zs:List Tm3) (cs:List (Int × Int)),gL H p zs/\cx H q cs/\cX zs/\dR zs cs/\2<=d/\(∀ n∈b9 zs cs,d ∣ n)/\0 < (g - dW zs cs) % d/\∀ H',Ext H H'->Q (.bl true) H'
def nZ  : Sp:=λ vs H Q E=>∃ (p:Addr) (g:Int) (q:Addr) (d:Int),vs=[.ref p,.int g,.ref q,.int d]/\(mY  p g q d H Q E)
theorem xg  (p:Addr) (g:Int) (q:Addr) (d:Int) (H:Hp) (Q:VK) (E:XK):nZ  [.ref p,.int g,.ref q,.int d] H Q E=(mY  p g q d H Q E):=xv (f:=λ (p:Addr) (g:Int) (q:Addr) (d:Int)=>[.ref p,.int g,.ref q,.int d]) (λ _ _ _ _ _ _ _ _ h=>by cases h;exact⟨rfl,rfl,rfl,rfl⟩) p g q d
theorem wA  {vs:List V}{H:Hp}{Q:VK}{E:XK}(h:nZ  vs H Q E):vs.length=4:=xw h λ _ _ _ _=>rfl
theorem ni(T:Tx K mg t):bq P w K mg base CX0 2 t.a__law_rest t.d__law_rest ["_law_terms_here", "_law_goal_here", "_law_case", "_law_by"] nZ:=by
 have G__law_sums:=%[eA|47];have G__law_whole:=%[dI|47];refine T.F__law_rest.ok iZ (λ vs H Q E h=>wA h) (λ c A o s H vs Q E hr h=>?_)
 ·obtain⟨p,g,q,d,rfl,zs,cs,hp,hq,ht,hc,hd,hdv,hrs,k⟩:=h;refine⟨_,%[%[(PW.pt %[%[%[%[_law_whole,%[%[3|0]|1]|3],(by intros;rfl)|19]|23],%[%[cI,%[3|0],%[0|2],(af _)|14]|30]|25]),%[%[(@cH _ _ _ _)|13]|12],(@ao _)|16],%[%[KP,rfl,%[∅,T.z_range,%[%[len,az,%[%[0|0]|1]|6]|1],∅|35],%[4,iZ|5],%[%[(PW.pt %[%[cI,%[aB,%[aB,%[2|0],%[4|0],(λ _ _=>rfl)|11],%[0|2],(λ _ _=>rfl)|11],%[aB,%[aB,%[2|0],%[4|0],(λ _ _=>rfl)|11],%[0|2],(λ _ _=>rfl)|11],(af _)|14],%[%[dz,%[bt,%[aB,%[aB,%[0|0],%[4|0],(λ _ _=>rfl)|11],%[0|2],(λ _ _=>rfl)|11],%[3|0]|10],%[0|2],(af _)|14]|37]|34]),%[%[(@cH _ _ _ _)|13]|12],(@ao _)|16]|12],(by intros;rfl)|29],%[%[%[dz,%[bt,%[aF,%[1|0],%[aB,%[_law_sums,%[%[0|0],%[%[2|0]|1]|1]|3],%[0|2],(λ _ _=>rfl)|11]|10],%[3|0]|10],%[0|2],(af _)|28]|13]|12]|9]|9],?_⟩;rw [show start ["_law_terms_here", "_law_goal_here", "_law_case", "_law_by", "_law_k"] [.ref p,.int g,.ref q,.int d]=[some (.ref p),some (.int g),some (.ref q),some (.int d),none] from rfl];clear G__law_sums G__law_whole;have h17:=ht.len;have hcl:=hc.len;have ra:∀ k,k < zs.length->(cs.getD k default).1 < (cs.getD k default).2->(zs.getD k default).1 % d=0:=λ k hk hlt=>Bh hcl hdv hk hlt;obtain⟨ts,hp1,al⟩:=hp;obtain⟨xs,hq1,bl⟩:=hq;have htl:ts.length=zs.length:=al.1;have hd1:¬ d < 2:=by omega
  have hd0:0 < d:=by omega
  exists k;exists ra;exists hcl;exists al;exists bl;clear hdv;simp! only [↓bU];refine⟨by omega,by omega,?_⟩;refine kq (λ j σ H'=>∃ v:Option V,σ=[some (.ref p),some (.int g),some (.ref q),some (.int d),v]/\H'=H) ⟨none,rfl,rfl⟩ ?_ ?_
  ·rintro j _ _ hj ⟨v,rfl,rfl⟩;rename_i H;have hkz:j < zs.length:=by have:j < ((zs.length:Int)).toNat:=hj;omega
   have hkc:j < cs.length:=by have:=hcl ();omega
   obtain⟨c1,c2,hu⟩:=eU (bl ()) hkc;obtain⟨z1,z2,hz⟩:=lZ (al ()) hkz;have ra':=ra () j hkz;generalize zs.getD j default=zi at *;generalize cs.getD j default=ci at *;clear hj k ra
   by_cases hlt:ci.1 < ci.2
   ·have ra2:=ra' hlt;clear ra';simp! only [↓aG];exact⟨_,rfl⟩
   ·clear ra';simp! only [↓aG];exact⟨_,rfl⟩
  ·rintro _ _ ⟨v,rfl,rfl⟩;rename_i H;ac_rfl;rw [dn];refine⟨zs,cs,⟨ts,hp1,al ()⟩,⟨xs,hq1,bl ()⟩,ht,hcl (),λ r1 H1 e1 h1=>?_⟩;have k':=k () H1 e1;clear k ra;ac_rfl
theorem p0{xs:List V}{k:Nat}{y:V}(hk:k < xs.length):xs.take k++[y]++xs.drop (k+1)=xs.set k y:=by
 rw [List.set_eq_take_append_cons_drop,Kx hk,Me];rfl
def As(H0 H:Hp)(more:List Bx)(ys:List V):Prop:=Al (λ c y=>∃ a,y=.ref a/\H0 a=none/\cx H a c) more.reverse ys
abbrev qE  (p:Addr) (g:Int) (q:Addr) (x:Addr) (H:Hp) (Q:VK) (E:XK):Prop:=∃ (zs:List Tm3) (cs:Bx) (ss:List V) (more:List Bx),gL H p zs/\cx H q cs/\cX zs/\dR zs cs/\H x=some (.tup ss)/\ee zs g cs ss more/\∀ (r:Addr) (ys:List V) (H':Hp),Ext H H'->H' r=some (.lst ys)->As H H' more ys->Q (.ref r) H'
def t7  : Sp:=λ vs H Q E=>∃ (p:Addr) (g:Int) (q:Addr) (x:Addr),vs=[.ref p,.int g,.ref q,.ref x]/\(qE  p g q x H Q E)
theorem zL  (p:Addr) (g:Int) (q:Addr) (x:Addr) (H:Hp) (Q:VK) (E:XK):t7  [.ref p,.int g,.ref q,.ref x] H Q E=(qE  p g q x H Q E):=xv (f:=λ (p:Addr) (g:Int) (q:Addr) (x:Addr)=>[.ref p,.int g,.ref q,.ref x]) (λ _ _ _ _ _ _ _ _ h=>by cases h;exact⟨rfl,rfl,rfl,rfl⟩) p g q x
theorem yN  {vs:List V}{H:Hp}{Q:VK}{E:XK}(h:t7  vs H Q E):vs.length=4:=xw h λ _ _ _ _=>rfl
theorem jo(T:Tx K mg t):bq P w K mg base CX0 3 t.a__law_behind t.d__law_behind ["_law_terms_here", "_law_goal_here", "_law_case", "_law_step"] t7:=by
 have G__law_sums:=%[eA|47];have G__law_whole:=%[dI|47];have G__law_rest:=%[ni|47];refine T.F__law_behind.ok bp (λ vs H Q E h=>yN h) (λ c A o s H vs Q E hr h=>?_)
 ·obtain⟨p,g,q,x,rfl,zs,cs,ss,more,hp,hq,ht,hc,hx,hs,k⟩:=h;refine⟨_,%[%[(PW.pt %[%[%[%[isinstance,aQ,%[%[3|0],%[%[(.ty "tuple"),(.type "tuple"),_,∅,T.z_tuple,nofun,rfl,⋯,⋯|31]|1]|1]|6],(by intros;rfl)|19]|23],%[%[cI,%[len,az,%[%[3|0]|1]|6],%[0|2],(af _)|14],%[%[dz,%[len,az,%[%[3|0]|1]|6],%[0|2],(af _)|14]|30]|25]|25]),%[%[(@dN _ _ _)|13]|12],(@ao _)|16],%[%[%[_law_sums,%[%[0|0],%[%[2|0]|1]|1]|3],(%[(2),rfl,%[%[4,bp|5],%[%[5,bp|5],(@aA _),∅|15],∅|15],∅,∅|22].mono λ _ _ _ _ h=>aU h),∅,∅,∅|38],%[%[(PW.pt %[(PW.pt %[%[(bH hr.units),%[3|0],%[%[(@bG _ _ _ _)|1]|18],(af _)|14],%[%[dz,%[4|0],%[1|0],(af _)|14]|37]|34]),%[(PW.pt %[%[(bH hr.units),%[3|0],%[%[(@bG _ _ _ _)|1]|18],(af _)|14],%[%[cI,%[5|0],%[1|0],(af _)|14]|37]|34])|30]|25]),%[%[%[(@cc _)|24]|13]|12],(@ao _)|16],%[%[(PW.pt %[%[(bH hr.units),%[len,az,%[%[3|0]|1]|6],%[0|2],(af _)|14],%[%[(bH hr.units),%[aB,%[3|0],%[0|2],(λ _ _=>rfl)|11],(@bG _ _ _ _),(af _)|14],%[%[%[_law_rest,%[%[0|0],%[%[1|0],%[%[2|0],%[%[aB,%[3|0],%[0|2],(λ _ _=>rfl)|11]|1]|1]|1]|1]|3],(by intros;rfl)|19]|37]|34]|34]),%[%[%[(@cc _)|24]|13]|12],(@ao _)|16],%[%[(PW.pt %[%[cI,%[len,az,%[%[3|0]|1]|6],%[0|2],(af _)|14],%[%[(cy hr.units),%[aB,%[3|0],%[0|2],(λ _ _=>rfl)|11],(@bG _ _ _ _),(af _)|14],%[%[%[%[_law_whole,%[%[aB,%[3|0],%[0|2],(λ _ _=>rfl)|11]|1]|3],(by intros;rfl)|19]|23],%[%[%[%[_law_whole,%[%[aB,%[3|0],%[0|2],(λ _ _=>rfl)|11]|1]|3],(by intros;rfl)|19]|23]|30]|25]|25]|25]),%[%[(@dN _ _ _)|13]|12],(@ao _)|16],%[%[%[3|0],(%[(3),rfl,%[%[6,bp|5],%[%[7,bp|5],%[%[8,bp|5],(@aA _),∅|15],∅|15],∅|15],∅,∅|22].mono λ _ _ _ _ h=>aU h),∅,∅,∅|38],%[%[(PW.pt %[%[%[jk,cI,%[0|2],%[7|0],%[len,az,%[%[0|0]|1]|6],∅|46]|23],%[%[%[jk,cI,%[aB,%[aB,%[2|0],%[7|0],(λ _ _=>rfl)|11],%[0|2],(λ _ _=>rfl)|11],%[8|0],%[aB,%[aB,%[2|0],%[7|0],(λ _ _=>rfl)|11],%[0|2],(λ _ _=>rfl)|11],∅|46]|23]|30]|25]),%[%[(@dN _ _ _)|13]|12],(@ao _)|16],%[%[%[%[%[fe,%[fe,%[Dl,%[2|0],(@fb _),(@eZ _ _ _ %[7|0])|41],%[%[%[%[%[aJ,%[8|0],%[0|2]|10],%[%[aB,%[aB,%[2|0],%[7|0],(λ _ _=>rfl)|11],%[0|2],(λ _ _=>rfl)|11]|1]|1]|18]|1]|24]|10],%[Dl,%[2|0],(@eZ _ _ _ %[aJ,%[7|0],%[0|2]|10]),(@fb _)|41]|10],%[%[fe,%[fe,%[Dl,%[2|0],(@fb _),(@eZ _ _ _ %[7|0])|41],%[%[%[%[%[aB,%[aB,%[2|0],%[7|0],(λ _ _=>rfl)|11],%[0|2],(λ _ _=>rfl)|11],%[%[8|0]|1]|1]|18]|1]|24]|10],%[Dl,%[2|0],(@eZ _ _ _ %[aJ,%[7|0],%[0|2]|10]),(@fb _)|41]|10]|1]|1]|24]|13]|12]|9]|9]|9]|9]|9]|9]|9],?_⟩;rw [show start ["_law_terms_here", "_law_goal_here", "_law_case", "_law_step", "_law_least", "_law_greatest", "_law_word", "_law_k", "_law_at"] [.ref p,.int g,.ref q,.ref x]=[some (.ref p),some (.int g),some (.ref q),some (.ref x),none,none,none,none,none] from rfl];clear G__law_sums G__law_whole G__law_rest;have h17:=ht.len;have hcl:=hc.len;exists k;exists hcl;have so1:PyData.strOk (Str.ofString "low")=true:=by decide +kernel
  have so2:PyData.strOk (Str.ofString "high")=true:=by decide +kernel
  have so3:PyData.strOk (Str.ofString "rest")=true:=by decide +kernel
  have so4:PyData.strOk (Str.ofString "part")=true:=by decide +kernel
  have sq1:(Str.ofString "low" == Str.ofString "low")=true:=by decide +kernel
  have sq2:(Str.ofString "high" == Str.ofString "high")=true:=by decide +kernel
  have sq3:(Str.ofString "high" == Str.ofString "low")=false:=by decide +kernel
  have sq4:(Str.ofString "rest" == Str.ofString "low")=false:=by decide +kernel
  have sq5:(Str.ofString "rest" == Str.ofString "high")=false:=by decide +kernel
  have sq6:(Str.ofString "part" == Str.ofString "low")=false:=by decide +kernel
  have sq7:(Str.ofString "part" == Str.ofString "high")=false:=by decide +kernel
  have sq8:(Str.ofString "rest" == Str.ofString "rest")=true:=by decide +kernel
  have sq9:(Str.ofString "part" == Str.ofString "part")=true:=by decide +kernel
  rcases hs with ⟨rfl,hs,rfl⟩|⟨rfl,hs,rfl⟩|⟨d,rfl,hd,hdv,hs,rfl⟩|⟨m,a,rfl,hm,ha1,ha2,hs,rfl⟩
  ·ac_rfl;rw [dn];refine⟨zs,cs,hp,hq,ht,hcl (),λ r1 H1 e1 h1=>?_⟩;have hx1:=e1.at hx;ac_rfl;intro t2 H2 _ e2 h2;have hx2:=e2.at hx1;clear hx hx1 hp hq;ac_rfl;intro r3 H3 _ e3 h3;exact k () r3 [] H3 (e1.trans (e2.trans e3)) h3 Al.nil
  ·ac_rfl;rw [dn];refine⟨zs,cs,hp,hq,ht,hcl (),λ r1 H1 e1 h1=>?_⟩;have hx1:=e1.at hx;ac_rfl;intro t2 H2 _ e2 h2;have hx2:=e2.at hx1;clear hx hx1 hp hq;ac_rfl;intro t3 H3 _ e3 h3;have hx3:=e3.at hx2;clear hx2 h2;ac_rfl;intro r4 H4 _ e4 h4;exact k () r4 [] H4 (e1.trans (e2.trans (e3.trans e4))) h4 Al.nil
  ·ac_rfl;rw [dn];refine⟨zs,cs,hp,hq,ht,hcl (),λ r1 H1 e1 h1=>?_⟩;have hx1:=e1.at hx;exists hdv;ac_rfl;intro t2 H2 _ e2 h2;have hx2:=e2.at hx1;clear hx hx1;ac_rfl;intro t3 H3 _ e3 h3;have hx3:=e3.at hx2;have e03:=e1.trans (e2.trans e3);clear hx2 h2;ac_rfl;rw [xg];refine⟨zs,cs,bO hp e03,ay hq e03,ht,hc,hd,hdv (),hs,λ H4 e4=>?_⟩;ac_rfl;intro r5 H5 _ e5 h5;exact k () r5 [] H5 (e03.trans (e4.trans e5)) h5 Al.nil
  ·ac_rfl;rw [dn];refine⟨zs,cs,hp,hq,ht,hcl (),λ r1 H1 e1 h1=>?_⟩;have hx1:=e1.at hx;ac_rfl;intro t2 H2 _ e2 h2;have hx2:=e2.at hx1;clear hx hx1;ac_rfl;intro t3 H3 _ e3 h3;have hx3:=e3.at hx2;have e03:=e1.trans (e2.trans e3);obtain⟨ts,hp3,al⟩:=bO hp e03;obtain⟨xs,hq3,bl⟩:=ay hq e03;have htl:ts.length=zs.length:=al.1;have hxl:xs.length=cs.length:=bl.1;have hmc:m < cs.length:=by have:=hcl ();omega
   obtain⟨y,hat,hy⟩:=eU bl hmc;rw [K9] at hat;have hm0:(0:Int)<=(m:Int):=by omega
   have hm1:(m:Int) < (zs.length:Int):=by omega
   generalize hci:cs.getD m default=ci at *;exists bl;exists al;exists hci;clear hx2 h2 hp hq;have c1:js xs none (some (m:Int))=xs.take m:=by rw [zz _ _ hm0,La]
   have c2:js xs (some ((m:Int)+1)) none=xs.drop (m+1):=by rw [qq _ _ %[0|8],show ((m:Int)+1).toNat=m+1 by omega]
   have ln1:(xs.take m).length<=17:=by rw [Lm];have:=hcl ();omega
   have ln2:(xs.drop (m+1)).length<=17:=by rw [Mc];have:=hcl ();omega
   simp! only [↓bU];intro p4 H4 _ e4 h4;have hq4:=e4.at hq3;have hy4:=e4.at hy;clear hq3 hy hp3 hx3;ac_rfl;intro t5 H5 _ e5 h5;have h4_5:=e5.at h4;have hq5:=e5.at hq4;have hy5:=e5.at hy4;clear h4 hq4 hy4;ac_rfl;intro l6 H6 _ e6 h6;have h4_6:=e6.at h4_5;have h5_6:=e6.at h5;have hq6:=e6.at hq5;have hy6:=e6.at hy5;clear h4_5 h5 hq5 hy5;refine fW h4_6 h6 (au (by simp only [length_cons,length_nil];omega)) ?_;intro l7 H7 _ e7 h7;have h5_7:=e7.at h5_6;have hq7:=e7.at hq6;have hy7:=e7.at hy6;clear h4_6 h5_6 hq6 hy6 h6;ac_rfl;intro l8 H8 _ e8 h8;have h7_8:=e8.at h7;refine fW h7_8 h8 (au (by simp only [length_append,length_cons,length_nil];omega)) ?_;rw [p0 %[0|8]];intro l9 H9 hl9 e9 h9;have e39:=e4.trans (e5.trans (e6.trans (e7.trans (e8.trans e9))));have hl9_0:H l9=none:=e03.free ((e4.trans (e5.trans (e6.trans (e7.trans e8)))).free hl9);have h5_9:=(e8.trans e9).at h5_7;have hq9:=(e8.trans e9).at hq7;have hy9:=(e8.trans e9).at hy7;clear h7 h8 h7_8 h5_7 hq7 hy7 e4 e5 e6 e7 e8 e9 hl9;ac_rfl;intro p4 H4 _ e4 h4;have hq4:=e4.at hq9;have hy4:=e4.at hy9;clear hq9 hy9;ac_rfl;intro t5' H5 _ e5 h5;have h4_5:=e5.at h4;have hq5:=e5.at hq4;clear h4 hq4 hy4;ac_rfl;intro l6 H6 _ e6 h6;have h4_6:=e6.at h4_5;have h5_6:=e6.at h5;have hq6:=e6.at hq5;clear h4_5 h5 hq5;refine fW h4_6 h6 (au (by simp only [length_cons,length_nil];omega)) ?_;intro l7 H7 _ e7 h7;have h5_7:=e7.at h5_6;have hq7:=e7.at hq6;clear h4_6 h5_6 hq6 h6;ac_rfl;intro l8 H8 _ e8 h8;have h7_8:=e8.at h7;refine fW h7_8 h8 (au (by simp only [length_append,length_cons,length_nil];omega)) ?_;rw [p0 %[0|8]];intro l10 H10 hl10 e9 h10;have e310:=e39.trans (e4.trans (e5.trans (e6.trans (e7.trans (e8.trans e9)))));have hl10_0:H l10=none:=(e03.trans e39).free ((e4.trans (e5.trans (e6.trans (e7.trans e8)))).free hl10);have h9_10:=(e4.trans (e5.trans (e6.trans (e7.trans (e8.trans e9))))).at h9;have h59_10:=(e4.trans (e5.trans (e6.trans (e7.trans (e8.trans e9))))).at h5_9;have h5_10:=(e8.trans e9).at h5_7;clear h7 h8 h7_8 h5_7 hq7 e4 e5 e6 e7 e8 e9 hl10 h9 h5_9;ac_rfl;intro r11 H11 _ e11 h11;have blN:=(bl ()).imp λ _ _ t=>axP.ext t (e310.trans e11);have u1:cx H11 l9 (upC cs m a):=⟨_,e11.at h9_10,by unfold upC;rw [hci ()];exact pS blN ⟨t5,rfl,e11.at h59_10⟩⟩;have u2:cx H11 l10 (loC cs m a):=⟨_,e11.at h10,by unfold loC;rw [hci ()];exact pS blN ⟨t5',rfl,e11.at h5_10⟩⟩;exact k () r11 _ H11 (e03.trans (e310.trans e11)) h11 (Al.cons' ⟨l9,rfl,hl9_0,u1⟩ (Al.cons' ⟨l10,rfl,hl10_0,u2⟩ Al.nil))
theorem Rep.len{zs:List Tm3}{g:Int}:∀ {p:List (List V)}{st:List Bx},Rep zs g st p []->st.length<=p.length
 | [],st,h=>by
  have e:st=[]:=by cases st<;>exact h
  rw [e];exact Kq _
 | _::_,[],h=>h.elim
 | _::p,c::st,⟨m,h1,h2,h3⟩=>by
  have:=Rep.len h3;rw [Ku] at this;rw [KY,KY];omega
def BxA(H:Hp)(c:Bx)(y:V):Prop:=∃ a,y=.ref a/\cx H a c
theorem dv.al{H:Hp}{cA pA:Addr}:∀ {st:List Bx}{cl:List V},dv H cA pA st cl->Al (BxA H) st.reverse cl
 | [],cl,h=>by have h':cl=[]:=h;rw [h'];exact Al.nil
 | c::st,cl,⟨cl0,y,h1,⟨a,h2,_,_,h5⟩,h3⟩=>by
  rw [h1,M9];exact ku (dv.al h3) (Al.cons' ⟨a,h2,h5⟩ Al.nil)
theorem uK{H:Hp}{f:V->Option PyData}:∀ {cs:List Bx}{ys:List V},Al (BxA H) cs ys->aY (ys.map (eT H (eT H (eT H f))))=some (cs.map λ c=>PyData.list ((c.map λ z=>[z.1,z.2]).map λ z=>PyData.tuple (z.map PyData.int)))
 | [],ys,h=>by
  have:ys=[]:=Mv.mp h.1;rw [this];rfl
 | c::cs,[],h=>by have:=h.1;simp at this
 | c::cs,y::ys,h=>by
  obtain⟨a,rfl,ts,h1,h2⟩:=h.2 0 c y rfl rfl;have ih:=uK (H:=H) (f:=f) (cs:=cs) (ys:=ys) ⟨by have:=h.1;simpa using this,λ i z x hz hx=>h.2 (i+1) z x (by simpa using hz) (by simpa using hx)⟩
  have e1:eT H (eT H (eT H f)) (.ref a)=some (PyData.list ((c.map λ z=>[z.1,z.2]).map λ z=>PyData.tuple (z.map PyData.int))):=by
   rw [gu,h1]
   show zQ (eT H (eT H f)) (.lst ts)=_
   rw [gq,pZ (tN h2)];rfl
  rw [KZ,e1,dc,ih];rfl
theorem Ab{H:Hp}{f:V->Option PyData}{cs:List Bx}{ys:List V}(h:Al (BxA H) cs ys)(hn:0 < cs.length):∃ d ds,aY (ys.map (eT H (eT H (eT H f))))=some (d::ds):=by
 rw [uK h]
 cases cs with
 | nil=>simp at hn
 | cons c cs=>exact⟨_,_,rfl⟩
theorem dv.re{H:Hp}{cA pA cB:Addr}(hb:H cB=none):∀ {st:List Bx}{cl:List V},dv H cA pA st cl->dv H cB cB st cl
 | [],_,h=>h
 | _::_,_,⟨cl0,y,h1,⟨a,h2,_,_,h5⟩,h3⟩=>by
  have n:a ≠ cB:=λ e=>by obtain⟨_,h,_⟩:=h5;rw [e,hb] at h;cases h
  exact⟨cl0,y,h1,⟨a,h2,n,n,h5⟩,dv.re hb h3⟩
theorem dv.cat{H0 H:Hp}{cA cB:Addr}{more st:List Bx}{cl ys:List V}(hs:dv H cA cA st cl)(hm:As H0 H more ys)(hmm:more=[]\/∃ a b,more=[a,b])(hb:H cB=none):dv H cB cB (more++st) (cl++ys):=by
 have hs':=hs.re hb
 rcases hmm with rfl|⟨a,b,rfl⟩
 ·have:ys=[]:=Mv.mp hm.1;rw [this,Md];exact hs'
 ·have hl:ys.length=2:=hm.1
  obtain⟨y1,y2,rfl⟩:∃ y1 y2,ys=[y1,y2]:=by
   match ys,hl with
   | [y1,y2],_=>exact⟨y1,y2,rfl⟩
  obtain⟨a1,h1,_,p1⟩:=hm.2 0 b y1 rfl rfl;obtain⟨a2,h2,_,p2⟩:=hm.2 1 a y2 rfl rfl;have n1:a1 ≠ cB:=λ e=>by obtain⟨_,h,_⟩:=p1;rw [e,hb] at h;cases h
  have n2:a2 ≠ cB:=λ e=>by obtain⟨_,h,_⟩:=p2;rw [e,hb] at h;cases h
  exact⟨cl++[y1],y2,by rw [Me];rfl,⟨a2,h2,n2,n2,p2⟩,cl,y1,rfl,⟨a1,h1,n1,n1,p1⟩,hs'⟩
theorem As.al{H0 H:Hp}{more:List Bx}{ys:List V}(h:As H0 H more ys):Al (BxA H) more.reverse ys:=⟨h.1,λ i z y hz hy=>(let ⟨a,h1,_,h3⟩:=h.2 i z y hz hy;⟨a,h1,h3⟩)⟩
theorem ee.more{zs:List Tm3}{g:Int}{c:Bx}{s:List V}{more:List Bx}(h:ee zs g c s more):more=[]\/(jl zs c g=false/\∃ a b,more=[a,b]):=by
 rcases h with ⟨_,_,h⟩|⟨_,_,h⟩|⟨_,_,_,_,_,h⟩|⟨_,_,_,_,_,_,e,h⟩
 ·exact .inl h
 ·exact .inl h
 ·exact .inl h
 ·exact .inr ⟨e,_,_,h⟩
abbrev m3  (p:Addr) (g:Int) (x:Addr) (H:Hp) (Q:VK) (E:XK):Prop:=∃ (zs:List Tm3) (pp:List (List V)),gL H p zs/\cX zs/\j7 H x pp/\pp.length<=60000/\Rep zs g [zs.map λ z=>z.2] pp []/\∀ (r:Addr) (H':Hp),Ext H H'->H' r=some (.lst [])->Q (.ref r) H'
def og  : Sp:=λ vs H Q E=>∃ (p:Addr) (g:Int) (x:Addr),vs=[.ref p,.int g,.ref x,.bl true]/\(m3  p g x H Q E)
theorem xh  (p:Addr) (g:Int) (x:Addr) (H:Hp) (Q:VK) (E:XK):og  [.ref p,.int g,.ref x,.bl true] H Q E=(m3  p g x H Q E):=pD (f:=λ (p:Addr) (g:Int) (x:Addr)=>[.ref p,.int g,.ref x,.bl true]) (λ _ _ _ _ _ _ h=>by cases h;exact⟨rfl,rfl,rfl⟩) p g x
theorem wC  {vs:List V}{H:Hp}{Q:VK}{E:XK}(h:og  vs H Q E):vs.length=4:=pE h λ _ _ _=>rfl
theorem nj(T:Tx K mg t):bq P w K mg base CX0 4 t.a__law_left t.d__law_left ["_law_terms_here", "_law_goal_here", "_law_paper", "_law_bare"] og:=by
 have G__law_behind:=%[jo|47];have G__law_ended:=%[lF|47];refine T.F__law_left.ok b7 (λ vs H Q E h=>wC h) (λ c A o s H vs Q E hr h=>?_)
 ·obtain⟨p,g,x,rfl,zs,pp,⟨ts,hp,al⟩,ht,⟨ys,hx,pl⟩,hpl,rep,k⟩:=h;refine⟨_,%[%[4,b7,%[%[%[(["_law_times", "_law_low", "_law_high", "_law_terms_here", "_law_goal_here", "_law_paper", "_law_bare", "_law_cases", "_law_step", "_law_case", "_law_more"]),(3),(aD (aa dC) ["_law_terms_here", "_law_goal_here", "_law_paper", "_law_bare", "_law_cases", "_law_step", "_law_case", "_law_more"] rfl rfl nofun),rfl,%[%[0|0]|20],(λ C s₀ H₀ ex pn=>(%[(3),rfl,%[%[(0),_,(show List.Nodup (["_law_times", "_law_low", "_law_high", "_law_terms_here", "_law_goal_here", "_law_paper", "_law_bare", "_law_cases", "_law_step", "_law_case", "_law_more"]:List Str) from by decide +kernel),rfl,(Or.inl rfl),%[0|7]|17],%[%[(1),_,(show List.Nodup (["_law_times", "_law_low", "_law_high", "_law_terms_here", "_law_goal_here", "_law_paper", "_law_bare", "_law_cases", "_law_step", "_law_case", "_law_more"]:List Str) from by decide +kernel),rfl,(Or.inl rfl),%[0|7]|17],%[%[(2),_,(show List.Nodup (["_law_times", "_law_low", "_law_high", "_law_terms_here", "_law_goal_here", "_law_paper", "_law_bare", "_law_cases", "_law_step", "_law_case", "_law_more"]:List Str) from by decide +kernel),rfl,(Or.inl rfl),%[0|7]|17],(@aA _),∅|15],∅|15],∅|15],∅,∅|22].mono λ _ _ _ _ h=>aU h)),(λ C s₀ H₀ ex pn=>(@aH _)),(λ C s₀ H₀ ex pn=>%[%[%[1|0],%[%[2|0]|1]|1]|18]),(by intros;rfl)|21]|1]|24]|4],%[%[KP,rfl,%[%[2|0]|20],%[5,b7|5],%[%[%[(bH hr.units),%[4|0],%[(@cc _)|24],(af _)|14],%[%[(@dN _ _ _)|13]|12],(@ao _)|16],%[%[6,b7,(@pK _ _ _ _ _ _ _ _ _ K0 MJ MI uq %[4|0] ∅ ∅)|4],%[%[7,b7,%[_law_behind,%[%[0|0],%[%[1|0],%[%[6|0],%[%[5|0]|1]|1]|1]|1]|3]|4],%[%[(PW.pt %[%[uk,%[7|0],(@dN _ _ _),(af _)|14],%[(PW.pt %[%[%[3|0],(by intros;rfl)|19],%[%[(cy hr.units),%[7|0],%[(@cc _)|24],(af _)|14],%[%[%[_law_ended,%[%[0|0],%[%[1|0],%[%[6|0]|1]|1]|1]|3],(by intros;rfl)|19]|37]|34]|34])|30]|25]),%[%[(@dN _ _ _)|13]|12],(@ao _)|16],%[%[4,b7,%[fe,%[4|0],%[7|0]|10]|4]|12]|9]|9]|9]|9],(by intros;rfl)|29],%[%[%[4|0]|13]|12]|9]|9],?_⟩;rw [show start ["_law_terms_here", "_law_goal_here", "_law_paper", "_law_bare", "_law_cases", "_law_step", "_law_case", "_law_more"] [.ref p,.int g,.ref x,.bl true]=[some (.ref p),some (.int g),some (.ref x),some (.bl true),none,none,none,none] from rfl];clear G__law_behind G__law_ended;have h17:=ht.len;have hyl:ys.length=pp.length:=pl.1;have wk:=fV (K:=K) (R:=trP) (λ _ _ _ _ h e=>h.ext e) hp al;exists k;exists pl;exists rep;exists hyl;have htr:gL H p zs:=⟨ts,hp,al⟩;ac_rfl;refine bS zs (λ _=>true) trP (λ D z y H'=>axP z.2 y H') wk.1 wk.2 (λ D z y H1 H2 h e=>axP.ext (a:=z.2) h e) (λ D z y H1 xs o h hD=>axP.upd (z:=z.2) h hD) (au %[0|8]) ?_ ?_
  ·intro D z y H' N1 N0 hz hD e _ ⟨q,hy,hq⟩ k1 _;subst hy;have k1':=k1 rfl;clear k1 k wk rep pl hx hp htr;simp! only [↓uQ,↓aI];intro t1 H6 ht1 e6 h6;exact k1' _ H6 e6 ⟨t1,rfl,h6⟩
  intro D zs2 H2 hD e2 h2 al2;rw [fT] at al2;have pr2:cx H2 D (zs.map λ z=>z.2):=⟨zs2,h2,kr al2⟩;clear al2 wk hD;ac_rfl;intro c3 H3 hc3 e3 h3;have hc30:H c3=none:=e2.free hc3
  have st3:dv H3 c3 c3 [zs.map λ z=>z.2] [.ref D]:=by
   have n:D ≠ c3:=λ e=>by rw [e,hc3] at h2;cases h2
   exact⟨[],.ref D,rfl,⟨D,rfl,n,n,ay pr2 e3⟩,rfl⟩
  have e03:=e2.trans e3;have hx3:=e03.at hx;clear hc3 pr2 h2 e2 e3;ac_rfl;refine cz (xs:=ys) (λ i σ H'=>∃ (st:List Bx) (ca:Addr) (cl:List V) (v5 v6 v7:Option V),σ=[some (.ref p),some (.int g),some (.ref x),some (.bl true),some (.ref ca),v5,v6,v7]/\Ext H H'/\H ca=none/\H' ca=some (.lst cl)/\dv H' ca ca st cl/\Rep zs g st (pp.drop i) []) ⟨_,c3,_,none,none,none,rfl,e03,hc30,h3,st3,rep ()⟩ (λ i σ H' _ ⟨_,_,_,_,_,_,_,e,_⟩=>e.at hx) ?_ ?_
  ·clear st3 h3 hx3 e03 hc30;rintro i y _ H5 hi ⟨st,ca,cl,v5,v6,v7,rfl,e5,hca,h5,stk,rp⟩;have hip:i < pp.length:=by have:=(Km.mp hi).1;have:=hyl ();omega
   obtain⟨sr,rfl,hsr⟩:=(pl ()).2 i pp[i] y (Kk hip) hi;have hln:=Rep.len rp;rw [Mc] at hln;rw [Mp hip] at rp
   cases st with
   | nil=>exact rp.elim
   | cons c st=>
    obtain⟨more,hst,hc,rp'⟩:=rp;have hmm:=hst.more;obtain⟨cl0,y,rfl,hcy,stk'⟩:=stk;obtain⟨a,rfl,nac,_,pa⟩:=hcy;have hcl0:=stk'.len;have hsr5:=e5.at hsr;obtain⟨cl,hcl⟩:∃ cl,cl0++[V.ref a]=cl:=⟨_,rfl⟩;have stkc:dv H5 ca ca (c::st) cl:=⟨cl0,.ref a,hcl.symm,⟨a,rfl,nac,nac,pa⟩,stk'⟩;have hlen:0 < (cl.length:Int):=by rw [←hcl,Ku,KW];omega
    have hlast:cl[cl.length - 1]? = some (.ref a):=by rw [←hcl,Ku,KW,M3,KR (Kq _),Nat.sub_self];rfl
    have hdrop:cl.dropLast=cl0:=by rw [←hcl,MP]
    rw [hcl] at h5;exists hst;exists rp';exists hmm;exists stk';exists hcl;exists hcl0;clear hi;simp! only [↓aG];intro n6 H6 hn6 e6 h6;have stk6:=stkc.ext e6;obtain⟨dd,ds,hdd⟩:=Ab (f:=eT H6 (eT H6 noD)) stk6.al (by rw [LY,KY];omega);have h5_6:=e6.at h5;have hsr6:=e6.at hsr5;have pa6:=ay pa e6;have stk'6:=(stk' ()).ext e6;have e06:=e5.trans e6;clear hn6 stkc stk6 h5 hsr5 stk' pa e6;have h7c:upd H6 ca (.lst cl0) ca=some (.lst cl0):=aj;have cs7:=CsV.upd (o:=.lst cl0) (c:=c) (y:=.ref a) ⟨a,rfl,nac,nac,pa6⟩ h5_6 (.inl rfl);have st7:=dv.upd (o:=.lst cl0) h5_6 (.inl rfl) stk'6;have e07:Ext H (upd H6 ca (.lst cl0)):=e06.put hca;have hsr7:upd H6 ca (.lst cl0) sr=some (.tup pp[i]):=by rw [ak (λ e=>by rw [e,h5_6] at hsr6;cases hsr6)];exact hsr6
    exists st7;exists stk'6;ac_rfl;generalize upd H6 ca (.lst cl0)=H7 at *;clear hdd h5_6 hsr6 pa6 stk'6 e06 h6 hlen hlast hdrop hcl;obtain⟨_,ha',_,_,pa7⟩:=cs7;cases ha';rw [zL];refine⟨zs,c,pp[i],more,bO htr e07,pa7,ht,hc,hsr7,hst (),λ r8 bs H8 e8 h8 beh=>?_⟩;have e08:=e07.trans e8;have h8c:=e8.at h7c;have st8:=λ (_:Unit)=>(st7 ()).ext e8;have pa8:=ay pa7 e8;have hcl1:cl0.length<=60000:=by have:=hcl0 ();rw [KY] at hln;omega
    clear hst h7c st7 pa7 hsr7
    rcases hmm () with rfl|⟨hee,b1,b2,rfl⟩
    ·have hbs:bs=[]:=Mv.mp beh.1;subst hbs;exists beh;clear hmm;ac_rfl;intro n9 H9 _ e9 h9;have h8_9:=e9.at h8;have h8c9:=e9.at h8c;have st9:=λ (_:Unit)=>(st8 ()).ext e9;have e09:=e08.trans e9;clear h8 h8c st8;ac_rfl;refine⟨kl %[0|8],?_⟩;intro c12 H12 hc12 e12 h12;have hcn:H c12=none:=e09.free hc12;have stN:=(dv.cat (st9 ()) (show As H7 H9 [] [] from Al.nil) (.inl rfl) hc12).ext e12;rw [Md] at stN;have eN:=e09.trans e12;exists stN;clear hc12 e12;ac_rfl;exact⟨_,c12,_,_,_,_,rfl,eN,hcn,h12,stN (),rp' ()⟩
    ·have hbl:bs.length=2:=beh.1;exists beh;clear hmm;ac_rfl;intro n9 H9 _ e9 h9;have h8_9:=e9.at h8;have h8c9:=e9.at h8c;have st9:=λ (_:Unit)=>(st8 ()).ext e9;have e09:=e08.trans e9;have beh9:As H7 H9 [b1,b2] bs:=(beh ()).imp λ _ _ ⟨a,h1,h2,h3⟩=>⟨a,h1,h2,ay h3 e9⟩;obtain⟨dd,ds,hdd⟩:=Ab (f:=eT H9 (eT H9 noD)) beh9.al (show 0 < [b2,b1].length by simp);exists beh9;clear h8 h8c st8 beh;ac_rfl;rw [zK];refine⟨zs,c,bO htr e09,ay pa8 e9,ht,hc,λ H10 e10=>?_⟩;rw [hee];have h8_10:=e10.at h8_9;have h8c10:=e10.at h8c9;have st10:=λ (_:Unit)=>(st9 ()).ext e10;have e010:=e09.trans e10;have beh10:As H7 H10 [b1,b2] bs:=(beh9 ()).imp λ _ _ ⟨a,h1,h2,h3⟩=>⟨a,h1,h2,ay h3 e10⟩;exists beh10;clear hdd beh9 st9 h8_9 h8c9 h9;ac_rfl;refine⟨kl %[0|8],?_⟩;intro c12 H12 hc12 e12 h12;have hcn:H c12=none:=e010.free hc12;have stN:=(dv.cat (st10 ()) (beh10 ()) (.inr ⟨_,_,rfl⟩) hc12).ext e12;have eN:=e010.trans e12;exists stN;clear hc12 e12;ac_rfl;exact⟨_,c12,_,_,_,_,rfl,eN,hcn,h12,stN (),rp' ()⟩
  ·rintro _ H5 ⟨st,ca,cl,v5,v6,v7,rfl,e5,hca,h5,stk,rp⟩;rw [hyl (),Nh] at rp
   have hs0:st=[]:=by cases st<;>exact rp
   subst hs0;have hcl:cl=[]:=stk;subst hcl;have k':=k () ca H5 e5 h5;clear k rp stk;ac_rfl
abbrev jX  (x:Addr) (p:Addr) (g:Int) (m:Int) (H:Hp) (Q:VK) (E:XK):Prop:=∃ (zs:List Tm3) (pp:List (List V)) (a1:Addr),H x=some (.tup [.str "apart",.ref a1])/\j7 H a1 pp/\gL H p zs/\cX zs/\(pp.length:Int)<=m/\pp.length<=60000/\Rep zs g [zs.map λ z=>z.2] pp []/\∀ H',Ext H H'->Q (.bl true) H'
def kK  : Sp:=λ vs H Q E=>∃ (x:Addr) (p:Addr) (g:Int) (m:Int),vs=[.ref x,.ref p,.int g,.int m]/\(jX  x p g m H Q E)
theorem sH  (x:Addr) (p:Addr) (g:Int) (m:Int) (H:Hp) (Q:VK) (E:XK):kK  [.ref x,.ref p,.int g,.int m] H Q E=(jX  x p g m H Q E):=xv (f:=λ (x:Addr) (p:Addr) (g:Int) (m:Int)=>[.ref x,.ref p,.int g,.int m]) (λ _ _ _ _ _ _ _ _ h=>by cases h;exact⟨rfl,rfl,rfl,rfl⟩) x p g m
theorem rZ  {vs:List V}{H:Hp}{Q:VK}{E:XK}(h:kK  vs H Q E):vs.length=4:=xw h λ _ _ _ _=>rfl
theorem lH(T:Tx K mg t):bq P w K mg base CX0 5 t.a__law_apart t.d__law_apart ["_law_found", "_law_terms_here", "_law_goal_here", "_law_most"] kK:=by
 have G__law_left:=%[nj|47];refine T.F__law_apart.ok nJ (λ vs H Q E h=>rZ h) (λ c A o s H vs Q E hr h=>?_)
 ·obtain⟨x,p,g,m,rfl,zs,pp,a1,hx,⟨ys,h1,pl⟩,htr,ht,hm,h4,rep,k⟩:=h;refine⟨_,%[%[(PW.pt %[%[%[%[isinstance,aQ,%[%[0|0],%[%[(.ty "tuple"),(.type "tuple"),_,∅,T.z_tuple,nofun,rfl,⋯,⋯|31]|1]|1]|6],(by intros;rfl)|19]|23],%[%[(cy hr.units),%[len,az,%[%[0|0]|1]|6],%[0|2],(af _)|14],%[%[(cy hr.units),%[aB,%[0|0],%[0|2],(λ _ _=>rfl)|11],(@bG _ _ _ _),(af _)|14],%[%[%[%[isinstance,aQ,%[%[aB,%[0|0],%[0|2],(λ _ _=>rfl)|11],%[%[(.ty "list"),(.type "list"),_,∅,T.z_list,nofun,rfl,⋯,⋯|31]|1]|1]|6],(by intros;rfl)|19]|23]|30]|25]|25]|25]),%[%[(@cH _ _ _ _)|13]|12],(@ao _)|16],%[%[%[%[jk,%[len,az,%[%[aB,%[0|0],%[0|2],(λ _ _=>rfl)|11]|1]|6],%[3|0],(af _)|28],%[%[(bH hr.units),%[_law_left,%[%[1|0],%[%[2|0],%[%[aB,%[0|0],%[0|2],(λ _ _=>rfl)|11],%[(@cH _ _ _ _)|1]|1]|1]|1]|3],%[(@cc _)|24],(af _)|28]|33]|32]|13]|12]|9],?_⟩;rw [show start ["_law_found", "_law_terms_here", "_law_goal_here", "_law_most"] [.ref x,.ref p,.int g,.int m]=[some (.ref x),some (.ref p),some (.int g),some (.int m)] from rfl];clear G__law_left;have hyl:ys.length=pp.length:=pl.1;have hml:(ys.length:Int)<=m:=by omega
  have sq9:(Str.ofString "apart" == Str.ofString "apart")=true:=by decide +kernel
  have pap:j7 H a1 pp:=⟨ys,h1,pl⟩;exists k;exists rep;exists pap;exists hyl;clear pl;ac_rfl;rw [xh];refine⟨zs,pp,htr,ht,pap (),h4,rep (),λ r2 H2 e2 h2=>?_⟩;clear hx h1;ac_rfl;intro r3 H3 _ e3 h3;have h2_3:=e3.at h2;have k':=k () H3 (e2.trans e3);clear k h2;ac_rfl
theorem yU{xs:List V}{n:Int}{H:Hp}{Q:VK}(h0:1<=n)(h1:n<=xs.length)(q:g8 (.tup (xs.drop n.toNat)) H Q):Hf (some n) none H Q xs:=by
 obtain⟨k,rfl⟩:=K1 (show 0<=n by omega);refine⟨λ e=>?_,?_⟩
 ·have:=e.1;rw [HT.sIx_nat] at this;omega
 ·rw [qq xs _ (show (0:Int)<=(k:Int) by omega)];exact q
abbrev jY  (x:Addr) (wd:Str) (m:Int) (H:Hp) (Q:VK) (E:XK):Prop:=∃ (z:Str) (ns:List Int),H x=some (.tup (.str z::ns.map V.int))/\ns.length<=5/\∀ H',Ext H H'->Q (.bl (decide ((ns.length:Int)=m) && (z == wd))) H'
def kL  : Sp:=λ vs H Q E=>∃ (x:Addr) (wd:Str) (m:Int),vs=[.ref x,.str wd,.int m]/\(jY  x wd m H Q E)
theorem aZ  (x:Addr) (wd:Str) (m:Int) (H:Hp) (Q:VK) (E:XK):kL  [.ref x,.str wd,.int m] H Q E=(jY  x wd m H Q E):=pD (f:=λ (x:Addr) (wd:Str) (m:Int)=>[.ref x,.str wd,.int m]) (λ _ _ _ _ _ _ h=>by cases h;exact⟨rfl,rfl,rfl⟩) x wd m
theorem sf  {vs:List V}{H:Hp}{Q:VK}{E:XK}(h:kL  vs H Q E):vs.length=3:=pE h λ _ _ _=>rfl
theorem jG(T:Tx K mg t):bq P w K mg base CX0 2 t.a_is_step t.d_is_step ["thing", "word", "many"] kL:=by
 have G_is_whole:=%[cD|47];refine T.F_is_step.ok xn (λ vs H Q E h=>sf h) (λ c A o s H vs Q E hr h=>?_)
 ·obtain⟨x,wd,m,rfl,z,ns,hx,hn,k⟩:=h;refine⟨_,%[%[(PW.pt %[%[%[%[isinstance,aQ,%[%[0|0],%[%[(.ty "tuple"),(.type "tuple"),_,∅,T.z_tuple,nofun,rfl,⋯,⋯|31]|1]|1]|6],(by intros;rfl)|19]|23],%[%[(cy hr.units),%[len,az,%[%[0|0]|1]|6],%[aJ,%[2|0],%[0|2]|10],(af _)|14],%[%[%[%[isinstance,aQ,%[%[aB,%[0|0],%[0|2],(λ _ _=>rfl)|11],%[%[(.ty "str"),(.type "str"),_,∅,T.z_str,nofun,rfl,⋯,⋯|31]|1]|1]|6],(by intros;rfl)|19]|23]|30]|25]|25]),%[%[(@cH _ _ _ _)|13]|12],(@ao _)|16],%[%[%[%[(bH hr.units),%[aB,%[0|0],%[0|2],(λ _ _=>rfl)|11],%[1|0],(af _)|28],%[%[all,(iL rfl),%[%[(["number", "thing", "word", "many"]),(1),(aD (aa fH) ["thing", "word", "many"] rfl rfl nofun),rfl,%[%[HF,%[0|0],(@eZ _ _ _ %[0|2]),(@fb _)|41]|20],(λ C s₀ H₀ ex pn=>%[(0),_,(show List.Nodup (["number", "thing", "word", "many"]:List Str) from by decide +kernel),rfl,(Or.inl rfl),%[0|7]|17]),(λ C s₀ H₀ ex pn=>(@aH _)),(λ C s₀ H₀ ex pn=>%[is_whole,%[%[0|0]|1]|3]),(by intros;rfl)|21]|1]|6]|33]|32]|13]|12]|9],?_⟩;rw [show start ["thing", "word", "many"] [.ref x,.str wd,.int m]=[some (.ref x),some (.str wd),some (.int m)] from rfl];clear G_is_whole;exists k;have hcast:((ns.length+1:Nat):Int)=(ns.length:Int)+1:=by omega
  by_cases hm:(ns.length:Int)=m
  ·have hm2:(ns.length:Int)+1=m+1:=by omega
   by_cases hz:z=wd
   ·subst hz;ac_rfl;refine yU ⋯ (by rw [KY];omega) ?_;intro t1 H1 _ e1 h1;have h1':H1 t1=some (.tup (ns.map V.int)):=h1;have wk:=Ec (K:=K) h1';clear h1 hx;ac_rfl;refine aP (ns.map V.int) (λ _=>true) (λ _=>.bl true) (λ z y H'=>y=z/\H' t1=some (.tup (ns.map V.int))) wk.1 wk.2 (au (by rw [Kr];omega)) ?_ ?_
    ·intro D v y H' N1 N0 hv hD e ⟨hy,_⟩ k1 _;subst hy;obtain⟨n,_,rfl⟩:=KG.mp hv;have k1':N1 (.bl true) H':=k1 rfl H' (Ext.refl _);clear k1 hv wk;simp! only [↓aL,↓aI,↓bU]
    ·intro D H2 hD e2 h2;have k':=k () H2 (e1.trans e2);rw [KN hm,Nd,Bool.and_true] at k';have hbl:(((ns.map V.int).filter λ _=>true).map λ _=>V.bl true)=(ns.map λ _=>true).map V.bl:=by rw [fT,Lh,Lh];rfl
     have hall:((ns.map λ _=>true).all id)=true:=by rw [Nc];exact LS.mpr λ _ _=>rfl
     rw [hbl] at h2;clear k wk hbl;ac_rfl
   ·have k':=k () H (Ext.refl _);rw [beq_false_of_ne hz,MS] at k';clear k;ac_rfl
  ·have k':=k () H (Ext.refl _);have hm2:¬ (ns.length:Int)+1=m+1:=by omega
   rw [KD hm,Bool.false_and] at k';clear k;ac_rfl
abbrev j1  (p:Addr) (q:Addr) (d:Int) (H:Hp) (Q:VK) (E:XK):Prop:=∃ (zs:List Tm3) (cs:List (Int × Int)),gL H p zs/\cx H q cs/\cX zs/\dR zs cs/\2<=d/\(∀ n∈b9 zs cs,d ∣ n)/\∀ H',Ext H H'->Q (.bl true) H'
def kQ  : Sp:=λ vs H Q E=>∃ (p:Addr) (q:Addr) (d:Int),vs=[.ref p,.ref q,.int d]/\(j1  p q d H Q E)
theorem sI  (p:Addr) (q:Addr) (d:Int) (H:Hp) (Q:VK) (E:XK):kQ  [.ref p,.ref q,.int d] H Q E=(j1  p q d H Q E):=pD (f:=λ (p:Addr) (q:Addr) (d:Int)=>[.ref p,.ref q,.int d]) (λ _ _ _ _ _ _ h=>by cases h;exact⟨rfl,rfl,rfl⟩) p q d
theorem sk  {vs:List V}{H:Hp}{Q:VK}{E:XK}(h:kQ  vs H Q E):vs.length=3:=pE h λ _ _ _=>rfl
theorem jn(T:Tx K mg t):bq P w K mg base CX0 1 t.a_divides_all t.d_divides_all ["terms", "case", "number"] kQ:=by
 refine T.F_divides_all.ok lQ (λ vs H Q E h=>sk h) (λ c A o s H vs Q E hr h=>?_)
 ·obtain⟨p,q,d,rfl,zs,cs,⟨ys,hp,al⟩,⟨xs,hq,bl⟩,ht,hc,hd,hdv,k⟩:=h;refine⟨_,%[%[%[all,(iL rfl),%[%[(["term", "bounds", "terms", "case", "number"]),(2),(aD (aa cw) ["terms", "case", "number"] rfl rfl nofun),rfl,%[∅,T.z_zip,%[%[0|0],%[%[1|0]|1]|1],∅,∅|39],(λ C s₀ H₀ ex pn=>(%[(2),rfl,%[%[(0),_,(show List.Nodup (["term", "bounds", "terms", "case", "number"]:List Str) from by decide +kernel),rfl,(Or.inl rfl),%[0|7]|17],%[%[(1),_,(show List.Nodup (["term", "bounds", "terms", "case", "number"]:List Str) from by decide +kernel),rfl,(Or.inl rfl),%[0|7]|17],(@aA _),∅|15],∅|15],∅,∅|22].mono λ _ _ _ _ h=>aU h)),(λ C s₀ H₀ ex pn=>(@kf _ _ _ %[cI,%[aB,%[1|0],%[0|2],(λ _ _=>rfl)|11],%[aB,%[1|0],%[0|2],(λ _ _=>rfl)|11],(af _)|14])),(λ C s₀ H₀ ex pn=>%[(bH hr.units),%[bt,%[aB,%[0|0],%[0|2],(λ _ _=>rfl)|11],%[4|0]|10],%[0|2],(af _)|28]),(by intros;rfl)|21]|1]|6]|13]|12],?_⟩;rw [show start ["terms", "case", "number"] [.ref p,.ref q,.int d]=[some (.ref p),some (.ref q),some (.int d)] from rfl];have hd0:0 < d:=by omega
  have hdm:∀ z∈zs.zip cs,z.2.1 < z.2.2->z.1.1 % d=0:=λ z hz hlt=>My (hdv _ (by
   unfold b9;exact List.mem_map.mpr ⟨z,List.mem_filter.mpr ⟨hz,decide_eq_true hlt⟩,rfl⟩))
  exists k;exists hdm;clear hdv;ac_rfl;have wk:=j8 (R1:=trP) (R2:=axP) (λ _ _ _ _ h e=>h.ext e) (λ _ _ _ _ h e=>h.ext e) hp hq al bl;refine aP (zs.zip cs) (λ z=>decide (z.2.1 < z.2.2)) (λ _=>.bl true) (Ap trP axP) wk.1 wk.2 (au (by have:=ht.len;rw [Lq];omega)) ?_ ?_
  ·intro D z y H' N1 N0 hz hD e ⟨u,q1,q2,hu,hu2,⟨r1,h1,h1'⟩,⟨r2,h2,h2'⟩⟩ k1 k0;subst hu h1 h2
   by_cases hlt:z.2.1 < z.2.2
   ·have k1':N1 (.bl true) H':=k1 (KN hlt) H' (Ext.refl _);have hz0:=hdm () z hz hlt;clear k1 k0 k hdm;simp! only [↓bP,↓aI]
   ·have k0':N0 H':=k0 (KD hlt) H' (Ext.refl _);clear k1 k0 k hdm;simp! only [↓bP,↓aI]
  ·intro D H' hD e hD';have hbl:∀ l:List (Tm3 × (Int × Int)),(l.map λ _=>V.bl true)=(l.map λ _=>true).map V.bl:=λ l=>by rw [Lh];rfl
   rw [hbl] at hD';have hall:∀ l:List (Tm3 × (Int × Int)),((l.map λ _=>true).all id)=true:=λ l=>by rw [Nc];exact LS.mpr λ _ _=>rfl
   have hall':=hall ((zs.zip cs).filter λ z=>decide (z.2.1 < z.2.2));generalize ((zs.zip cs).filter λ z=>decide (z.2.1 < z.2.2)).map (λ _=>true)=bs at *;have k':=k () H' e;clear k wk hbl hall hdm;ac_rfl
abbrev j0  (p:Addr) (g:Int) (q:Addr) (x:Addr) (H:Hp) (Q:VK) (E:XK):Prop:=∃ (zs:List Tm3) (cs:List (Int × Int)) (ss:List V),gL H p zs/\cx H q cs/\cX zs/\dR zs cs/\H x=some (.tup ss)/\ee zs g cs ss []/\∀ H',Ext H H'->Q (.bl true) H'
def kO  : Sp:=λ vs H Q E=>∃ (p:Addr) (g:Int) (q:Addr) (x:Addr),vs=[.ref p,.int g,.ref q,.ref x]/\(j0  p g q x H Q E)
theorem gw  (p:Addr) (g:Int) (q:Addr) (x:Addr) (H:Hp) (Q:VK) (E:XK):kO  [.ref p,.int g,.ref q,.ref x] H Q E=(j0  p g q x H Q E):=xv (f:=λ (p:Addr) (g:Int) (q:Addr) (x:Addr)=>[.ref p,.int g,.ref q,.ref x]) (λ _ _ _ _ _ _ _ _ h=>by cases h;exact⟨rfl,rfl,rfl,rfl⟩) p g q x
theorem sj  {vs:List V}{H:Hp}{Q:VK}{E:XK}(h:kO  vs H Q E):vs.length=4:=xw h λ _ _ _ _=>rfl
theorem rj(T:Tx K mg t):bq P w K mg base CX0 3 t.a_ends_by t.d_ends_by ["terms", "goal", "case", "step"] kO:=by
 have G_least_sum:=%[cS|47];have G_greatest_sum:=%[bZ|47];have G_is_step:=%[jG|47];have G_divides_all:=%[jn|47];refine T.F_ends_by.ok mO (λ vs H Q E h=>sj h) (λ c A o s H vs Q E hr h=>?_)
 ·obtain⟨p,g,q,x,rfl,zs,cs,ss,hp,hq,ht,hc,hx,hs,k⟩:=h;refine⟨_,%[%[4,mO,%[least_sum,%[%[0|0],%[%[2|0]|1]|1]|3]|4],%[%[%[%[is_step,%[%[3|0],%[(@bG _ _ _ _),%[%[0|2]|1]|1]|1]|3],(by intros;rfl)|19],%[%[%[dz,%[4|0],%[1|0],(af _)|28]|13]|12],(@ao _)|16],%[%[%[%[is_step,%[%[3|0],%[(@bG _ _ _ _),%[%[0|2]|1]|1]|1]|3],(by intros;rfl)|19],%[%[%[cI,%[greatest_sum,%[%[0|0],%[%[2|0]|1]|1]|3],%[1|0],(af _)|28]|13]|12],(@ao _)|16],%[%[(PW.pt %[%[%[is_step,%[%[3|0],%[(@bG _ _ _ _),%[%[0|2]|1]|1]|1]|3],(by intros;rfl)|19],%[%[AE,%[aB,%[3|0],%[0|2],(λ _ _=>rfl)|11],%[0|2],(af _)|14]|37]|34]),%[%[%[%[divides_all,%[%[0|0],%[%[2|0],%[%[aB,%[3|0],%[0|2],(λ _ _=>rfl)|11]|1]|1]|1]|3],%[%[(cy hr.units),%[bt,%[aF,%[1|0],%[4|0]|10],%[aB,%[3|0],%[0|2],(λ _ _=>rfl)|11]|10],%[0|2],(af _)|28]|33]|32]|13]|12],(@ao _)|16],%[%[(@cH _ _ _ _)|13]|12]|9]|9]|9]|9],?_⟩;rw [show start ["terms", "goal", "case", "step", "least"] [.ref p,.int g,.ref q,.ref x]=[some (.ref p),some (.int g),some (.ref q),some (.ref x),none] from rfl];clear G_least_sum G_greatest_sum G_is_step G_divides_all;exists k;have q1:((Str.ofString "low":Str) == Str.ofString "low")=true:=by decide +kernel
  have q2:((Str.ofString "high":Str) == Str.ofString "low")=false:=by decide +kernel
  have q3:((Str.ofString "high":Str) == Str.ofString "high")=true:=by decide +kernel
  have q4:((Str.ofString "rest":Str) == Str.ofString "rest")=true:=by decide +kernel
  rcases hs with ⟨rfl,hs,_⟩|⟨rfl,hs,_⟩|⟨d,rfl,hd,hdv,hs,_⟩|⟨m,a,rfl,hm,ha1,ha2,hs,hm⟩
  ·ac_rfl;rw [eI];refine⟨zs,cs,hp,hq,ht,hc,λ H1 e1=>?_⟩;have hx1:=e1.at hx;ac_rfl;rw [aZ];refine⟨"low",[],hx1,by decide,λ H2 e2=>?_⟩;rw [show (decide ((([]:List Int).length:Int)=0) && (("low":Str) == Str.ofString "low"))=true by rw [q1];rfl];have k':=k () H2 (e1.trans e2);clear k hx hx1;ac_rfl
  ·ac_rfl;rw [eI];refine⟨zs,cs,hp,hq,ht,hc,λ H1 e1=>?_⟩;have hx1:=e1.at hx;ac_rfl;rw [aZ];refine⟨"high",[],hx1,by decide,λ H2 e2=>?_⟩;rw [show (decide ((([]:List Int).length:Int)=0) && (("high":Str) == Str.ofString "low"))=false by rw [q2];rfl];have hx2:=e2.at hx1;clear hx hx1;ac_rfl;rw [aZ];refine⟨"high",[],hx2,by decide,λ H3 e3=>?_⟩;rw [show (decide ((([]:List Int).length:Int)=0) && (("high":Str) == Str.ofString "high"))=true by rw [q3];rfl];have e03:=e1.trans (e2.trans e3);clear hx2;ac_rfl;rw [gY];refine⟨zs,cs,bO hp e03,ay hq e03,ht,hc,λ H4 e4=>?_⟩;have k':=k () H4 (e03.trans e4);clear k;ac_rfl
  ·exists hdv;ac_rfl;rw [eI];refine⟨zs,cs,hp,hq,ht,hc,λ H1 e1=>?_⟩;have hx1:=e1.at hx;ac_rfl;rw [aZ];refine⟨"rest",[d],hx1,by simp,λ H2 e2=>?_⟩;rw [show (decide ((([d]:List Int).length:Int)=0) && (("rest":Str) == Str.ofString "low"))=false by rfl];have hx2:=e2.at hx1;clear hx hx1;ac_rfl;rw [aZ];refine⟨"rest",[d],hx2,by simp,λ H3 e3=>?_⟩;rw [show (decide ((([d]:List Int).length:Int)=0) && (("rest":Str) == Str.ofString "high"))=false by rfl];have hx3:=e3.at hx2;clear hx2;ac_rfl;rw [aZ];refine⟨"rest",[d],hx3,by simp,λ H4 e4=>?_⟩;rw [show (decide ((([d]:List Int).length:Int)=1) && (("rest":Str) == Str.ofString "rest"))=true by rw [q4];rfl];have hx4:=e4.at hx3;have e04:=e1.trans (e2.trans (e3.trans e4));clear hx3;ac_rfl;rw [sI];refine⟨zs,cs,bO hp e04,ay hq e04,ht,hc,hd,hdv (),λ H5 e5=>?_⟩;have hx5:=e5.at hx4;have k':=k () H5 (e04.trans e5);have hd0:0 < d:=by omega
   have hs2:¬ (g - dW zs cs) % d=0:=by omega
   clear k hx4 hdv;ac_rfl
  ·cases hm
abbrev i3  (q:Addr) (x:Addr) (H:Hp) (Q:VK) (E:XK):Prop:=∃ (zs:List Tm3) (g:Int) (cs:Bx) (ss:List V) (more:List Bx),cx H q cs/\cX zs/\dR zs cs/\H x=some (.tup ss)/\ee zs g cs ss more/\∀ H',Ext H H'->Q (.bl (decide (0 < more.length))) H'
def ir  : Sp:=λ vs H Q E=>∃ (q:Addr) (x:Addr),vs=[.ref q,.ref x]/\(i3  q x H Q E)
theorem ph  (q:Addr) (x:Addr) (H:Hp) (Q:VK) (E:XK):ir  [.ref q,.ref x] H Q E=(i3  q x H Q E):=qL (f:=λ (q:Addr) (x:Addr)=>[.ref q,.ref x]) (λ _ _ _ _ h=>by cases h;exact⟨rfl,rfl⟩) q x
theorem o7  {vs:List V}{H:Hp}{Q:VK}{E:XK}(h:ir  vs H Q E):vs.length=2:=qM h λ _ _=>rfl
theorem oQ(T:Tx K mg t):bq P w K mg base CX0 3 t.a_parts_by t.d_parts_by ["case", "step"] ir:=by
 have G_is_step:=%[jG|47];refine T.F_parts_by.ok sJ (λ vs H Q E h=>o7 h) (λ c A o s H vs Q E hr h=>?_)
 ·obtain⟨q,x,rfl,zs,g,cs,ss,more,hq,ht,hc,hx,hs,k⟩:=h;refine⟨_,%[%[(PW.pt %[%[%[%[is_step,%[%[1|0],%[(@bG _ _ _ _),%[%[0|2]|1]|1]|1]|3],(by intros;rfl)|19]|23],%[%[%[jk,cI,%[0|2],%[aB,%[1|0],%[0|2],(λ _ _=>rfl)|11],%[len,az,%[%[0|0]|1]|6],∅|46]|23]|30]|25]),%[%[(@cH _ _ _ _)|13]|12],(@ao _)|16],%[%[(@iJ _ _ _ _ _ _ _ _ _ _ _ _ jk cI %[aB,%[aB,%[0|0],%[aB,%[1|0],%[0|2],(λ _ _=>rfl)|11],(λ _ _=>rfl)|11],%[0|2],(λ _ _=>rfl)|11] %[aB,%[1|0],%[0|2],(λ _ _=>rfl)|11] %[aB,%[aB,%[0|0],%[aB,%[1|0],%[0|2],(λ _ _=>rfl)|11],(λ _ _=>rfl)|11],%[0|2],(λ _ _=>rfl)|11] ∅)|13]|12]|9],?_⟩;rw [show start ["case", "step"] [.ref q,.ref x]=[some (.ref q),some (.ref x)] from rfl];clear G_is_step;exists k;have q4:((Str.ofString "part":Str) == Str.ofString "part")=true:=by decide +kernel
  rcases hs with ⟨rfl,hs,rfl⟩|⟨rfl,hs,rfl⟩|⟨d,rfl,hd,hdv,hs,rfl⟩|⟨m,a,rfl,hm,ha1,ha2,hs,rfl⟩
  ·ac_rfl;rw [aZ];refine⟨"low",[],hx,by decide,λ H2 e2=>?_⟩;rw [show (decide ((([]:List Int).length:Int)=2) && (("low":Str) == Str.ofString "part"))=false by rfl];have k':Q (.bl false) H2:=k () H2 e2;clear k;ac_rfl
  ·ac_rfl;rw [aZ];refine⟨"high",[],hx,by decide,λ H2 e2=>?_⟩;rw [show (decide ((([]:List Int).length:Int)=2) && (("high":Str) == Str.ofString "part"))=false by rfl];have k':Q (.bl false) H2:=k () H2 e2;clear k;ac_rfl
  ·ac_rfl;rw [aZ];refine⟨"rest",[d],hx,by simp,λ H2 e2=>?_⟩;rw [show (decide ((([d]:List Int).length:Int)=2) && (("rest":Str) == Str.ofString "part"))=false by rfl];have k':Q (.bl false) H2:=k () H2 e2;clear k hdv;ac_rfl
  ·ac_rfl;rw [aZ];refine⟨"part",[(m:Int),a],hx,by simp,λ H2 e2=>?_⟩;rw [show (decide ((([(m:Int),a]:List Int).length:Int)=2) && (("part":Str) == Str.ofString "part"))=true by rw [q4];rfl];have k':Q (.bl true) H2:=k () H2 e2;obtain⟨xs,hq2,bl⟩:=ay hq e2;have hx2:=e2.at hx;have hxl:xs.length=cs.length:=bl.1;have hmc:m < cs.length:=by have:=hc.len;omega
   obtain⟨y,hat,hy⟩:=eU bl hmc;rw [K9] at hat;have hm0:(0:Int)<=(m:Int):=by omega
   have hm1:(m:Int) < (cs.length:Int):=by omega
   generalize cs.getD m default=ci at *;clear k bl hx;ac_rfl
theorem Rep.no{zs:List Tm3}{g:Int}(hz:∀ z∈zs,(0:Int)<=z.1):∀ {p:List (List V)}{st:List Bx},Rep zs g st p []->∀ c∈st,∀ xs,InB c xs->jc zs xs ≠ g
 | [],st,h,c,hc,_,_=>by
  have e:st=[]:=by cases st<;>exact h
  rw [e] at hc;cases hc
 | _::_,[],h,_,_,_,_=>h.elim
 | s::p,d::st,⟨more,h1,hd,h3⟩,c,hc,xs,hx=>by
  have ih:=Rep.no hz h3
  rcases KS.mp hc with rfl|hc
  ·obtain⟨b1,b2⟩:=iM hz hd.len hx
   rcases h1 with ⟨_,hs,_⟩|⟨_,hs,_⟩|⟨d,_,h2,hdv,hs,_⟩|⟨k,a,_,hk,_,_,_,rfl⟩
   ·omega
   ·omega
   ·intro e;have:=p7 d hd.len hx hdv;rw [e] at this;rw [My this] at hs;omega
   ·rcases uO (k:=k) (a:=a) (by rw [hd.len];exact hk) hx with h|h
    ·exact ih _ (Ll _ (Ko _ Kp)) xs h
    ·exact ih _ (Ll _ Kp) xs h
  ·exact ih c (KU _ hc) xs hx
abbrev i6(C:Addr)(u:Addr)(v:Addr)(x:Addr)(H:Hp)(Q:VK)(E:XK):Prop:=∃ (room f1 f2:Int) (A B:List (Int × Int)) (pp:List (List V)),bc C H u room f1 A/\bc C H v room f2 B/\jt A/\jt B/\j7 H x pp/\pp.length<=60000/\(∀ ks,ji ks (ai A B)->cX (ag ks (ai A B))/\Rep (ag ks (ai A B)) (f2 - f1) [(ag ks (ai A B)).map λ z=>z.2] pp [])/\∀ H',Ext H H'->Q (.bl true) H'
def iw(C:Addr):Sp:=λ vs H Q E=>∃ (u:Addr) (v:Addr) (x:Addr),vs=[.ref u,.ref v,.ref x]/\(i6 C u v x H Q E)
theorem pj(C:Addr)(u:Addr)(v:Addr)(x:Addr)(H:Hp)(Q:VK)(E:XK):iw C [.ref u,.ref v,.ref x] H Q E=(i6 C u v x H Q E):=pD (f:=λ (u:Addr) (v:Addr) (x:Addr)=>[.ref u,.ref v,.ref x]) (λ _ _ _ _ _ _ h=>by cases h;exact⟨rfl,rfl,rfl⟩) u v x
theorem o9(C:Addr){vs:List V}{H:Hp}{Q:VK}{E:XK}(h:iw C vs H Q E):vs.length=3:=pE h λ _ _ _=>rfl
theorem oS(T:Tx K mg t):bq P w K mg base CX0 5 t.a_is_apart t.d_is_apart ["one", "other", "paper"] (iw t.a_View):=by
 have G_gathered:=%[iQ|47];have G_first_case:=%[fP|47];have G_parts_by:=%[oQ|47];have G_ends_by:=%[rj|47];have G_parted:=%[mw|47];refine T.F_is_apart.ok dt (λ vs H Q E h=>o9 _ h) (λ cdv A' outer s H vs Q E hr h=>?_)
 ·obtain⟨u,v,x,rfl,room,f1,f2,A,B,pp,vu,vv,hA,hB,⟨ys,hx,pl⟩,hpl,sh,k⟩:=h;refine⟨_,%[%[3,dt,%[gathered,%[%[0|0],%[%[1|0]|1]|1]|3]|4],%[%[%[%[%[isinstance,aQ,%[%[2|0],%[%[(.ty "list"),(.type "list"),_,∅,T.z_list,nofun,rfl,⋯,⋯|31]|1]|1]|6],(by intros;rfl)|19]|23],%[%[(@cH _ _ _ _)|13]|12],(@ao _)|16],%[%[4,dt,%[%[%[first_case,%[%[aB,%[3|0],%[0|2],(λ _ _=>rfl)|11]|1]|3]|1]|24]|4],%[%[KP,rfl,%[%[2|0]|20],%[5,dt|5],%[%[%[(bH hr.units),%[len,az,%[%[4|0]|1]|6],%[0|2],(af _)|14],%[%[(@cH _ _ _ _)|13]|12],(@ao _)|16],%[%[6,dt,(@pK _ _ _ _ _ _ _ _ _ K0 MJ MI uq %[4|0] ∅ ∅)|4],%[%[%[%[parts_by,%[%[6|0],%[%[5|0]|1]|1]|3],(by intros;rfl)|19],%[(@eY _ _ _ _ %[K0,PySem.F.slot_list_extend,PySem.F.type_list_extend,mz,%[4|0],%[%[parted,%[%[6|0],%[%[aB,%[5|0],%[0|2],(λ _ _=>rfl)|11],%[%[aB,%[5|0],%[0|2],(λ _ _=>rfl)|11]|1]|1]|1]|3]|1],∅,∅,∅,∅,∅|45] ∅)|12],%[%[%[%[%[ends_by,%[%[aB,%[3|0],%[0|2],(λ _ _=>rfl)|11],%[%[aB,%[3|0],%[0|2],(λ _ _=>rfl)|11],%[%[6|0],%[%[5|0]|1]|1]|1]|1]|3],(by intros;rfl)|19]|23],%[%[(@cH _ _ _ _)|13]|12],(@ao _)|16]|12]|16]|12]|9]|9],(by intros;rfl)|29],%[%[%[(bH hr.units),%[len,az,%[%[4|0]|1]|6],%[0|2],(af _)|28]|13]|12]|9]|9]|9]|9],?_⟩;rw [show start ["one", "other", "paper", "found", "cases", "step", "case"] [.ref u,.ref v,.ref x]=[some (.ref u),some (.ref v),some (.ref x),none,none,none,none] from rfl];clear G_gathered G_first_case G_parts_by G_ends_by G_parted;have hyl:ys.length=pp.length:=pl.1;exists k;exists sh;exists pl;exists hyl;ac_rfl;rw [qu];refine⟨room,f1,f2,A,B,vu,vv,hA,hB,λ ks l r0 H1 e1 hr1 t1 ko=>?_⟩;obtain⟨ht,rep⟩:=sh () ks ko;generalize ag ks (ai A B)=zs at *;generalize f2 - f1=g at *;have h17:=ht.len;have hx1:=e1.at hx;exists rep;clear sh ko;ac_rfl;rw [jP];refine⟨zs,t1,h17,λ c0 H2 e2 p2=>?_⟩;ac_rfl;intro cA H3 hcA e3 h3;have ncA:c0 ≠ cA:=λ z=>by obtain⟨_,hh,_⟩:=p2;rw [z,hcA] at hh;cases hh
  have hcA1:H1 cA=none:=e2.free hcA;have st3:dv H3 cA cA [zs.map λ z=>z.2] [.ref c0]:=⟨[],.ref c0,rfl,⟨c0,rfl,ncA,ncA,ay p2 e3⟩,rfl⟩;have e13:=e2.trans e3;have hx3:=e13.at hx1;exists st3;clear hcA p2 e2 e3;ac_rfl;refine cz (xs:=ys) (λ i σ H'=>∃ (st:List Bx) (cl:List V) (v5 v6:Option V),σ=[some (.ref u),some (.ref v),some (.ref x),some (.ref r0),some (.ref cA),v5,v6]/\Ext H1 H'/\H' cA=some (.lst cl)/\dv H' cA cA st cl/\Rep zs g st (pp.drop i) []) ⟨_,_,none,none,rfl,e13,h3,st3 (),rep ()⟩ (λ i σ H' _ ⟨_,_,_,_,_,e,_⟩=>e.at hx1) ?_ ?_
  ·clear st3 h3 hx3 e13 rep;rintro i y _ H5 hi ⟨st,cl,v5,v6,rfl,e5,h5,stk,rp⟩;have hip:i < pp.length:=by have:=(Km.mp hi).1;have:=hyl ();omega
   obtain⟨sr,rfl,hsr⟩:=(pl ()).2 i pp[i] y (Kk hip) hi;have hln:=Rep.len rp;rw [Mc] at hln;rw [Mp hip] at rp
   cases st with
   | nil=>exact rp.elim
   | cons c st=>
    obtain⟨more,hst,hc,rp'⟩:=rp;have hmm:=hst.more;obtain⟨cl0,y,rfl,hcy,stk'⟩:=stk;obtain⟨a,rfl,nac,_,pa⟩:=hcy;have hcl0:=stk'.len;rw [KY] at hln;have hcl1:cl0.length<=60000:=by omega
    have hsr5:=(e1.trans e5).at hsr;obtain⟨cl,hcl⟩:∃ cl,cl0++[V.ref a]=cl:=⟨_,rfl⟩;have hlen:¬ (cl.length:Int)=0:=by rw [←hcl,Ku,KW];omega
    have hlen2:0 < (cl.length:Int):=by omega
    have hlast:cl[cl.length - 1]? = some (.ref a):=by rw [←hcl,Ku,KW,M3,KR (Kq _),Nat.sub_self];rfl
    have hdrop:cl.dropLast=cl0:=by rw [←hcl,MP]
    rw [hcl] at h5;have h7c:upd H5 cA (.lst cl0) cA=some (.lst cl0):=aj;have cs7:=CsV.upd (o:=.lst cl0) (c:=c) (y:=.ref a) ⟨a,rfl,nac,nac,pa⟩ h5 (.inl rfl);have st7:=dv.upd (o:=.lst cl0) h5 (.inl rfl) stk';have e17:Ext H1 (upd H5 cA (.lst cl0)):=e5.put hcA1;have hsr7:upd H5 cA (.lst cl0) sr=some (.tup pp[i]):=by rw [ak (λ e=>by rw [e,h5] at hsr5;cases hsr5)];exact hsr5
    have hr7:=e17.at hr1;exists hst;exists rp';exists hmm;exists hcl;exists hcl0;exists st7;clear hi pa stk' hsr hsr5;simp! only [↓aG];generalize upd H5 cA (.lst cl0)=H7 at *;clear h5 hlen hlen2 hlast hdrop hcl e5;obtain⟨_,ha',_,_,pa7⟩:=cs7;cases ha';rw [ph];refine⟨zs,g,c,pp[i],more,pa7,ht,hc,hsr7,hst (),λ H8 e8=>?_⟩;have e18:=e17.trans e8;have h8c:=e8.at h7c;have st8:=λ (_:Unit)=>(st7 ()).ext e8;have pa8:=ay pa7 e8;have hsr8:=e8.at hsr7;have hr8:=e8.at hr7;have hst':=hst ();clear h7c st7 pa7 hsr7 hr7 hst
    rcases hst' with ⟨hs0,hs1,rfl⟩|⟨hs0,hs1,rfl⟩|⟨d,hs0,hd,hdv,hs1,rfl⟩|⟨m,b,hs0,hm,hb1,hb2,hs1,rfl⟩
    ·have so:ee zs g c pp[i] []:=.inl ⟨hs0,hs1,rfl⟩;rw [show decide (0 < ([]:List Bx).length)=false from rfl];exists so;clear hmm hs0;ac_rfl;rw [gw];refine⟨zs,c,pp[i],bO t1 e18,pa8,ht,hc,hsr8,so (),λ H9 e9=>?_⟩;have h9c:=e9.at h8c;have st9:=(st8 ()).ext e9;have e19:=e18.trans e9;exists st9;clear h8c st8 pa8 hsr8 hr8;ac_rfl;exact⟨_,_,_,_,rfl,e19,(by first|rfl|exact h9c),st9 (),rp' ()⟩
    ·have so:ee zs g c pp[i] []:=.inr (.inl ⟨hs0,hs1,rfl⟩);rw [show decide (0 < ([]:List Bx).length)=false from rfl];exists so;clear hmm hs0;ac_rfl;rw [gw];refine⟨zs,c,pp[i],bO t1 e18,pa8,ht,hc,hsr8,so (),λ H9 e9=>?_⟩;have h9c:=e9.at h8c;have st9:=(st8 ()).ext e9;have e19:=e18.trans e9;exists st9;clear h8c st8 pa8 hsr8 hr8;ac_rfl;exact⟨_,_,_,_,rfl,e19,(by first|rfl|exact h9c),st9 (),rp' ()⟩
    ·have so:ee zs g c pp[i] []:=.inr (.inr (.inl ⟨d,hs0,hd,hdv,hs1,rfl⟩));rw [show decide (0 < ([]:List Bx).length)=false from rfl];exists so;clear hmm hs0 hdv;ac_rfl;rw [gw];refine⟨zs,c,pp[i],bO t1 e18,pa8,ht,hc,hsr8,so (),λ H9 e9=>?_⟩;have h9c:=e9.at h8c;have st9:=(st8 ()).ext e9;have e19:=e18.trans e9;exists st9;clear h8c st8 pa8 hsr8 hr8;ac_rfl;exact⟨_,_,_,_,rfl,e19,(by first|rfl|exact h9c),st9 (),rp' ()⟩
    ·rw [show decide (0 < ([loC c m b,upC c m b]:List Bx).length)=true from rfl];rw [hs0] at hsr8;have hmc:m < c.length:=by have:=hc.len;omega
     have hc17:c.length<=17:=by have:=hc.len;omega
     clear hmm hs0;ac_rfl;rw [jM];refine⟨c,m,rfl,pa8,hmc,hc17,λ r10 a1 a2 H10 n1 n2 e10 h10 p1 p2=>?_⟩;have e110:=e18.trans e10;have h10c:=e10.at h8c;have st10:=(st8 ()).ext e10;have m1c:a1 ≠ cA:=λ z=>by rw [z,h8c] at n1;cases n1
     have m2c:a2 ≠ cA:=λ z=>by rw [z,h8c] at n2;cases n2
     have stN:dv H10 cA cA (loC c m b::upC c m b::st) (cl0++[.ref a1,.ref a2]):=⟨cl0++[.ref a1],.ref a2,by rw [Me];rfl,⟨a2,rfl,m2c,m2c,p2⟩,cl0,.ref a1,rfl,⟨a1,rfl,m1c,m1c,p1⟩,st10⟩;have stM:=dv.upd (o:=.lst (cl0++[.ref a1,.ref a2])) h10c (.inl rfl) stN;have e111:Ext H1 (upd H10 cA (.lst (cl0++[.ref a1,.ref a2]))):=e110.put hcA1;have hext:cl0.length+2<=sizeLine:=kl %[0|8];exists stM;clear h8c st8 pa8 hsr8 hr8 n1 n2 st10 stN p1 p2;ac_rfl;exact⟨_,_,_,_,rfl,e111,by first|rfl|exact aj,stM (),rp' ()⟩
  ·rintro _ H5 ⟨st,cl,v5,v6,rfl,e5,h5,stk,rp⟩;rw [hyl (),Nh] at rp
   have hs0:st=[]:=by cases st<;>exact rp
   subst hs0;have hcl:cl=[]:=stk;subst hcl;have k':=k () H5 (e1.trans e5);clear k rp stk;ac_rfl
theorem qT(cs:List Int)(a:Int × Int)(i:Nat)(c:Int)(h:cs[i]? = some c):dX (cs.take (i+1)) a=dX (cs.take i) a++(List.range a.1.toNat).map λ (n:Nat)=>c+(n:Int) * a.2:=by
 unfold dX;rw [take_add_one,h,List.flatMap_append];simp
abbrev jT  (first:Int) (l:Addr) (H:Hp) (Q:VK) (E:XK):Prop:=∃ axs:List (Int × Int),dj H l (axL axs)/\jt axs/\cq (axs.map λ a=>a.1)<=4096/\∀ (r:Addr) (H':Hp),H r=none->Ext H H'->H' r=some (.lst ((bu first axs).map V.int))->Q (.ref r) H'
def kG  : Sp:=λ vs H Q E=>∃ (first:Int) (l:Addr),vs=[.int first,.ref l]/\(jT  first l H Q E)
theorem jN  (first:Int) (l:Addr) (H:Hp) (Q:VK) (E:XK):kG  [.int first,.ref l] H Q E=(jT  first l H Q E):=qL (f:=λ (first:Int) (l:Addr)=>[.int first,.ref l]) (λ _ _ _ _ h=>by cases h;exact⟨rfl,rfl⟩) first l
theorem rV  {vs:List V}{H:Hp}{Q:VK}{E:XK}(h:kG  vs H Q E):vs.length=2:=qM h λ _ _=>rfl
theorem lG(T:Tx K mg t):bq P w K mg base CX0 1 t.a__law_cells t.d__law_cells ["_law_first", "_law_axes_here"] kG:=by
 refine T.F__law_cells.ok aW (λ vs H Q E h=>rV h) (λ c A o s H vs Q E hr h=>?_)
 ·obtain⟨first,l,rfl,axs,⟨ys,hl,al⟩,hax,hpr,k⟩:=h;refine⟨_,%[%[2,aW,%[%[%[0|0]|1]|24]|4],%[%[KP,rfl,%[%[1|0]|20],(%[(2),rfl,%[%[3,aW|5],%[%[(4),_,aW.nd,rfl,(Or.inr rfl),%[0|7]|17],(@aA _),∅|15],∅|15],∅,∅|22].mono λ _ _ _ _ h=>aU h),%[%[5,aW,%[(@cc _)|24]|4],%[%[KP,rfl,%[%[2|0]|20],%[(6),_,aW.nd,rfl,(Or.inr rfl),%[0|7]|17],%[%[5,aW,%[fe,%[5|0],%[(["_law_k", "_law_first", "_law_axes_here", "_law_found", "_law_size", "_law_pace", "_law_longer", "_law_cell_here"]),(1),(aD (aa cQ) ["_law_first", "_law_axes_here", "_law_found", "_law_size", "_law_pace", "_law_longer", "_law_cell_here"] rfl rfl nofun),rfl,%[∅,T.z_range,%[%[3|0]|1],∅|35],(λ C s₀ H₀ ex pn=>%[(0),_,(show List.Nodup (["_law_k", "_law_first", "_law_axes_here", "_law_found", "_law_size", "_law_pace", "_law_longer", "_law_cell_here"]:List Str) from by decide +kernel),rfl,(Or.inl rfl),%[0|7]|17]),(λ C s₀ H₀ ex pn=>(@aH _)),(λ C s₀ H₀ ex pn=>%[aJ,%[7|0],%[bh,%[5|0],%[0|0]|10]|10]),(by intros;rfl)|21]|10]|4]|12],(by intros;rfl)|29],%[%[2,aW,%[5|0]|4]|12]|9]|9],(by intros;rfl)|29],%[%[%[2|0]|13]|12]|9]|9],?_⟩;rw [show start ["_law_first", "_law_axes_here", "_law_found", "_law_size", "_law_pace", "_law_longer", "_law_cell_here"] [.int first,.ref l]=[some (.int first),some (.ref l),none,none,none,none,none] from rfl];ac_rfl;intro r H1 hr1 e1 h1;have hl1:=e1.at hl;have hpos:∀ a∈axs,(1:Int)<=a.1:=λ a ha=>(hax.2 a ha).1;ac_rfl;refine cz (xs:=ys) (λ i σ H'=>∃ (r:Addr) (v3 v4 v5 v6:Option V),σ=[some (.int first),some (.ref l),some (.ref r),v3,v4,v5,v6]/\Ext H H'/\H r=none/\H' r=some (.lst ((bu first (axs.take i)).map V.int))) ⟨r,none,none,none,none,rfl,e1,hr1,h1⟩ (λ i σ H' _ ⟨_,_,_,_,_,_,e,_,_⟩=>e.at hl) ?_ ?_
  ·rintro i y _ H3 hi ⟨r3,v3,v4,v5,v6,rfl,e3,hr3,h3⟩;obtain⟨a,q,ha,rfl,hq⟩:=IM al hi;have hq3:=e3.at hq;have hm:=hax.2 a (LM ha)
   have hlen:(bu first (axs.take i)).length * a.1.toNat<=4096:=by
    have hl4:=jK first (axs.take i) λ b hb=>hpos b (List.mem_of_mem_take hb)
    have hp:=lC (axs.map λ a=>a.1) (λ n hn=>by obtain⟨b,hb,rfl⟩:=KG.mp hn;exact hpos b hb) (i+1);rw [qX _ i a.1 (by rw [KH,ha];rfl),←List.map_take,←hl4] at hp;have hza:((a.1.toNat:Nat):Int)=a.1:=MW %[0|8]
    have:(((bu first (axs.take i)).length * a.1.toNat:Nat):Int)<=4096:=by rw [Int.natCast_mul,hza];omega
    omega
   have hsn:bu first (axs.take (i+1))=dX (bu first (axs.take i)) a:=by
    rw [LB,ha]
    show bu first (axs.take i++[a])=_
    rw [pe]
   rw [hsn]
   generalize bu first (axs.take i)=cs at hlen h3
   clear hsn hi k;simp! only [↓aG];intro g H4 hg4 e4 h4;have h3_4:=e4.at h3;have hg0:H g=none:=e3.free hg4;ac_rfl;refine cz (xs:=cs.map V.int) (λ j σ H'=>∃ (g:Addr) (v6:Option V),σ=[some (.int first),some (.ref l),some (.ref r3),some (.int a.1),some (.int a.2),some (.ref g),v6]/\Ext H H'/\Ext H3 H'/\H g=none/\H' g=some (.lst ((dX (cs.take j) a).map V.int))) ⟨g,_,rfl,e3.trans e4,e4,hg0,h4⟩ (λ j σ H' _ ⟨_,_,_,_,e,_⟩=>e.at h3) ?_ ?_
   ·rintro j x _ H5 hj ⟨g,v6',rfl,e5,e35,hg5,h5⟩;rw [KH] at hj;obtain⟨c,hc,rfl⟩:=KA.mp hj;have hjl:j < cs.length:=(Km.mp hc).1
    have hzn:a.1.toNat<=4096:=by
     have:=Nat.mul_le_mul_right a.1.toNat (show 1<=cs.length by omega);omega
    have hwl:(dX (cs.take j) a).length+a.1.toNat<=4096:=by
     rw [mf,Lm];have:(min j cs.length+1) * a.1.toNat<=cs.length * a.1.toNat:=Nat.mul_le_mul_right _ %[0|8];rw [Nat.add_mul,Nat.one_mul] at this;omega
    rw [qT cs a j c hc];generalize dX (cs.take j) a=ws at h5 hwl;clear hj;simp! only [↓aG];refine⟨by omega,by omega,?_⟩;refine aP (List.range a.1.toNat) (λ _=>true) (λ m=>.int (c+(m:Int) * a.2)) (λ j x H'=>x=.int (0+(j:Nat))) cp.1 cp.2 (au (by rw [Lw];omega)) ?_ ?_
    ·intro D m x H' N1 N0 hm' hD e hx k1 _;subst hx;have hmr:=K5.mp hm';have k1':=k1 rfl H' (Ext.refl _);rw [show c+(m:Int) * a.2=c+a.2 * (0+(m:Int)) by rw [K9,Ln]] at k1';have hcm:fU a.2 (0+(m:Int)):=.inr ⟨by omega,by omega⟩;clear k1 hm';simp! only [↓aL,↓aI]
    ·intro D H6 hD e6 h6;rw [fT] at h6;have h5_6:=e6.at h5;refine fW h5_6 h6 (au (by rw [Kr,Kr,Lw];omega)) ?_;intro g7 H7 hg7 e7 h7;clear h5_6 h6 h5;ac_rfl;refine⟨g7,_,rfl,e5.trans (e6.trans e7),e35.trans (e6.trans e7),(e5.trans e6).free hg7,?_⟩;rw [h7,LQ,Lh];rfl
   ·rintro _ H5 ⟨g,v6',rfl,e5,e35,hg5,h5⟩;rw [Kr,Lx] at h5;ac_rfl;exact⟨g,_,_,_,_,rfl,e5,hg5,h5⟩
  ·rintro _ H3 ⟨r3,v3,v4,v5,v6,rfl,e3,hr3,h3⟩;have hyl:ys.length=axs.length:=by rw [al.1];unfold axL;rw [length_map]
   rw [hyl,Lx] at h3;ac_rfl;exact k r3 H3 hr3 e3 h3
theorem kn:∀ {A:List (Int × Int)}{ys:List Int},InR (A.map λ a=>a.1) ys ↔ InA A ys
 | [],[]=>Iff.rfl
 | [],_::_=>Iff.rfl
 | _::_,[]=>Iff.rfl
 | a::A,y::ys=>and_congr Iff.rfl (kn (A:=A) (ys:=ys))
theorem uz:∀ {A:List (Int × Int)}{ys:List Int},InA A ys->xA ys (A.map λ a=>a.2)=eS A ys
 | [],[],_=>rfl
 | [],_::_,h=>h.elim
 | _::_,[],h=>h.elim
 | a::A,y::ys,h=>by
  have ih:=uz (A:=A) (ys:=ys) h.2;unfold xA at ih ⊢;rw [map_cons,List.zipWith_cons_cons,sum_cons,ih,Int.mul_comm];rfl
theorem gX{f:Int}{A:List (Int × Int)}{c:Int}:c∈bu f A ↔ ∃ ys,InA A ys/\c=f+eS A ys:=by
 rw [sC];constructor
 ·rintro ⟨xs,h,e⟩;exact⟨xs,kn.mp h,by rw [e,uz (kn.mp h)]⟩
 ·rintro ⟨xs,h,e⟩;exact⟨xs,kn.mpr h,by rw [e,uz h]⟩
def lY(A B:List (Int × Int))(g:Int):Prop:=∃ ys zs,InA A ys/\InA B zs/\eS A ys=g+eS B zs
theorem lY.swap{A B:List (Int × Int)}{g:Int}:lY B A (0 - g) ↔ lY A B g:=
 ⟨λ ⟨ys,zs,h1,h2,e⟩=>⟨zs,ys,h2,h1,by omega⟩,λ ⟨ys,zs,h1,h2,e⟩=>⟨zs,ys,h2,h1,by omega⟩⟩
theorem oK:∀ {A:List (Int × Int)}{ys:List Int},(∀ a∈A,(1<=a.1/\a.1<=31)/\(-11000<=a.2/\a.2<=11000))->InA A ys->-330000 * (A.length:Int)<=eS A ys/\eS A ys<=330000 * (A.length:Int)
 | [],[],_,_=>by decide
 | [],_::_,_,h=>h.elim
 | _::_,[],_,h=>h.elim
 | a::A,y::ys,h,hi=>by
  have ih:=oK (A:=A) (λ b hb=>h b (Ko _ hb)) hi.2;obtain⟨s,p⟩:=h a Kp;have hy:=hi.1;have u1:=Lf p.2 (show 0<=y by omega);have u2:=Lf p.1 (show 0<=y by omega)
  show _<=a.2 * y+eS A ys/\a.2 * y+eS A ys<=_
  rw [KY];generalize a.2 * y=x at *;omega
abbrev m6(K:PySem.W.Frag)(a:Addr)(ns:List Int)(s:Addr)(p:Addr)(q:Addr)(f:Int)(H:Hp)(Q:VK)(E:XK):Prop:=s=a/\SqL K H a (ns.map V.int)/\ns.length<=63/\1<=f/\f<=6/\∃ A B:List (Int × Int),cx H p A/\cx H q B/\AxK A/\AxK B/\∀ (g:Int) (H':Hp),Ext H H'->(-10000000<=g/\g<=10000000)->Q (.int g) H'
def om(K:W.Frag)(a:Addr)(ns:List Int):Sp:=λ vs H Q E=>∃ (s:Addr) (p:Addr) (q:Addr) (f:Int),vs=[.ref s,.ref p,.ref q,.int f]/\(m6 K a ns s p q f H Q E)
theorem xj(K:W.Frag)(a:Addr)(ns:List Int)(s:Addr)(p:Addr)(q:Addr)(f:Int)(H:Hp)(Q:VK)(E:XK):om K a ns [.ref s,.ref p,.ref q,.int f] H Q E=(m6 K a ns s p q f H Q E):=xv (f:=λ (s:Addr) (p:Addr) (q:Addr) (f:Int)=>[.ref s,.ref p,.ref q,.int f]) (λ _ _ _ _ _ _ _ _ h=>by cases h;exact⟨rfl,rfl,rfl,rfl⟩) s p q f
theorem wG(K:W.Frag)(a:Addr)(ns:List Int){vs:List V}{H:Hp}{Q:VK}{E:XK}(h:om K a ns vs H Q E):vs.length=4:=xw h λ _ _ _ _=>rfl
theorem nq(T:Tx K mg t)(a:Addr)(ns:List Int):bq P w K mg base CX0 3 t.a__law_goal t.d__law_goal ["_law_script", "_law_one", "_law_other", "_law_factor"] (om K a ns):=by
 have G__law_draw:=%[cj|47] a ns;have G__law_cell:=%[gF|47];have G__law_place:=%[lE|47] a ns;refine T.F__law_goal.ok dF (λ vs H Q E h=>wG _ _ _ h) (λ cdv A' outer s H vs Q E hr h=>?_)
 ·obtain⟨_,p,q,f,rfl,rfl,hS,hl,f1,f2,A,B,pA,pB,kA,kB,k⟩:=h;rename_i a;refine⟨_,%[%[4,dF,%[_law_draw,%[%[0|0],%[%[0|2],%[%[um,%[0|2],%[0|2]|10]|1]|1]|1]|3]|4],%[%[5,dF,%[_law_draw,%[%[0|0],%[%[0|2],%[%[0|2]|1]|1]|1]|3]|4],%[%[%[(bH hr.units),%[5|0],%[0|2],(af _)|14],%[%[%[aF,%[bt,%[4|0],%[0|2]|10],%[0|2]|10]|13]|12],(@ao _)|16],%[%[%[(bH hr.units),%[5|0],%[0|2],(af _)|14],%[%[%[aJ,%[aJ,%[bh,%[aF,%[bt,%[4|0],%[0|2]|10],%[0|2]|10],%[3|0]|10],%[0|2]|10],%[bt,%[ef,%[4|0],%[0|2]|10],%[3|0]|10]|10]|13]|12],(@ao _)|16],%[%[6,dF,%[aF,%[_law_cell,%[%[0|2],%[%[1|0],%[%[_law_place,%[%[0|0],%[%[0|2],%[%[1|0]|1]|1]|1]|3]|1]|1]|1]|3],%[_law_cell,%[%[0|2],%[%[2|0],%[%[_law_place,%[%[0|0],%[%[0|2],%[%[2|0]|1]|1]|1]|3]|1]|1]|1]|3]|10]|4],%[%[%[aF,%[aJ,%[6|0],%[bt,%[4|0],%[0|2]|10]|10],%[0|2]|10]|13]|12]|9]|9]|9]|9]|9],?_⟩;rw [show start ["_law_script", "_law_one", "_law_other", "_law_factor", "_law_cell_here", "_law_way", "_law_goal_here"] [.ref a,.ref p,.ref q,.int f]=[some (.ref a),some (.ref p),some (.ref q),some (.int f),none,none,none] from rfl];clear G__law_draw G__law_cell G__law_place;have a3:=kA.len;have b3:=kB.len;have bA:∀ b∈A,-1000000<=b.2/\b.2<=1000000:=λ b hb=>by have:=(kA.sz b hb).2;omega
  have bB:∀ b∈B,-1000000<=b.2/\b.2<=1000000:=λ b hb=>by have:=(kB.sz b hb).2;omega
  have oA:∀ b∈A,(1:Int)<=b.1:=λ b hb=>(kA.sz b hb).1.1;have oB:∀ b∈B,(1:Int)<=b.1:=λ b hb=>(kB.sz b hb).1.1;have hA8:A.length<=8:=by omega
  have hB8:B.length<=8:=by omega
  exists bA;exists bB;exists oA;exists oB;exists k;ac_rfl;rw [bf];refine⟨hS,hl,⟨by decide,by decide⟩,by decide,λ c c0 c1=>?_⟩;ac_rfl;rw [bf];refine⟨hS,hl,⟨by decide,by decide⟩,by decide,λ wy w0 w1=>?_⟩;have c13:0<=c % 13/\c % 13 < 13:=by omega
  have c81:0<=c % 81/\c % 81 < 81:=by omega
  have c7:0<=c % 7/\c % 7 < 7:=by omega
  by_cases y0:wy=0
  ·have k2:=k () (c % 81 - 40) H (Ext.refl _) %[0|8];clear k;ac_rfl
  by_cases y1:wy=1
  ·have cf:0<=c / 13 % f/\c / 13 % f < f:=⟨Lg _ %[0|8],LC _ %[0|8]⟩;have u1:=Lf (show c % 13 - 6<=6 by omega) (show 0<=f by omega);have u2:=Lf (show -6<=c % 13 - 6 by omega) (show 0<=f by omega);have k2:=k () ((c % 13 - 6) * f+1+c / 13 % f) H (Ext.refl _) (by generalize (c % 13 - 6) * f=x at *;omega);have cm1:fU (c % 13 - 6) f:=.inr ⟨by omega,by omega⟩;have f0:0 < f:=by omega
   clear k u1 u2 cf;ac_rfl
  clear c13 c81;ac_rfl;rw [jO];refine⟨rfl,hS,hl,by decide,by decide,A,pA,hA8,oA (),λ ys r3 H3 e3 h3 iA=>?_⟩;exists iA;ac_rfl;rw [fO];refine⟨A,ys,ay pA e3,h3,hA8,bA (),λ H4 e4=>?_⟩;have e24:=e3.trans e4;have hS4:=e24.2 K a _ hS;ac_rfl;rw [jO];refine⟨rfl,hS4,hl,by decide,by decide,B,ay pB e24,hB8,oB (),λ zs r5 H5 e5 h5 iB=>?_⟩;exists iB;have e25:=e24.trans e5;ac_rfl;rw [fO];refine⟨B,zs,ay pB e25,h5,hB8,bB (),λ H6 e6=>?_⟩;have x1:=oK kA.sz (iA ());have x2:=oK kB.sz (iB ());have k2:=k () (0+eS A ys - (0+eS B zs)+c % 7 - 3) H6 (e25.trans e6) %[0|8];clear k x1 x2 h3 h5 hS hS4;ac_rfl
def Dp(H:Hp)(x:Addr)(A B:List (Int × Int))(g m:Int)(b:Bool):Prop:=(b=true/\∃ (ys zs:List Int) (a1 a2:Addr),H x=some (.tup [.str "shared",.ref a1,.ref a2])/\H a1=some (.tup (ys.map V.int))/\H a2=some (.tup (zs.map V.int))/\InA A ys/\InA B zs/\eS A ys=g+eS B zs)\/(b=false/\∃ (pp:List (List V)) (a1:Addr),H x=some (.tup [.str "apart",.ref a1])/\j7 H a1 pp/\(pp.length:Int)<=m/\pp.length<=60000/\∀ ks,ji ks (ai (A.map ae) (B.map ae))->Rep (ag ks (ai (A.map ae) (B.map ae))) g [(ag ks (ai (A.map ae) (B.map ae))).map λ z=>z.2] pp [])
theorem j7.ext{H H':Hp}{a:Addr}{pp:List (List V)}(h:j7 H a pp)(e:Ext H H'):j7 H' a pp:=by
 obtain⟨ys,h1,h2⟩:=h;exact⟨ys,e.at h1,h2.ext e⟩
abbrev jV  (x:Addr) (p:Addr) (q:Addr) (g:Int) (m:Int) (b:Bool) (H:Hp) (Q:VK) (E:XK):Prop:=∃ A B:List (Int × Int),cx H p A/\cx H q B/\AxK A/\AxK B/\PrK A B/\Dp H x A B g m b/\∀ H',Ext H H'->Q (.bl true) H'
def kI  : Sp:=λ vs H Q E=>∃ (x:Addr) (p:Addr) (q:Addr) (g:Int) (m:Int) (b:Bool),vs=[.ref x,.ref p,.ref q,.int g,.int m,.bl b]/\(jV  x p q g m b H Q E)
theorem eQ  (x:Addr) (p:Addr) (q:Addr) (g:Int) (m:Int) (b:Bool) (H:Hp) (Q:VK) (E:XK):kI  [.ref x,.ref p,.ref q,.int g,.int m,.bl b] H Q E=(jV  x p q g m b H Q E):=JS (f:=λ (x:Addr) (p:Addr) (q:Addr) (g:Int) (m:Int) (b:Bool)=>[.ref x,.ref p,.ref q,.int g,.int m,.bl b]) (λ _ _ _ _ _ _ _ _ _ _ _ _ h=>by cases h;exact⟨rfl,rfl,rfl,rfl,rfl,rfl⟩) x p q g m b
theorem rX  {vs:List V}{H:Hp}{Q:VK}{E:XK}(h:kI  vs H Q E):vs.length=6:=JU h λ _ _ _ _ _ _=>rfl
theorem fQ(T:Tx K mg t):bq P w K mg base CX0 6 t.a__law_right t.d__law_right ["_law_found", "_law_one", "_law_other", "_law_goal_here", "_law_most", "_law_meet"] kI:=by
 have G__law_met:=%[oU|47];have G__law_terms:=%[dJ|47];have G__law_apart:=%[lH|47];refine T.F__law_right.ok nG (λ vs H Q E h=>rX h) (λ cdv A' outer s H vs Q E hr h=>?_)
 ·obtain⟨x,p,q,g,m,b,rfl,A,B,hp,hq,kA,kB,kP,an,k⟩:=h;refine⟨_,%[%[%[%[5|0],(by intros;rfl)|19],%[%[%[_law_met,%[%[0|0],%[%[1|0],%[%[2|0],%[%[3|0]|1]|1]|1]|1]|3]|13]|12],(@ao _)|16],%[%[%[_law_apart,%[%[0|0],%[%[_law_terms,%[%[1|0],%[%[2|0]|1]|1]|3],%[%[3|0],%[%[4|0]|1]|1]|1]|1]|3]|13]|12]|9],?_⟩;rw [show start ["_law_found", "_law_one", "_law_other", "_law_goal_here", "_law_most", "_law_meet"] [.ref x,.ref p,.ref q,.int g,.int m,.bl b]=[some (.ref x),some (.ref p),some (.ref q),some (.int g),some (.int m),some (.bl b)] from rfl];clear G__law_met G__law_terms G__law_apart;have a3:=kA.len;have b3:=kB.len;have bA:∀ b∈A,-1000000<=b.2/\b.2<=1000000:=λ b hb=>by have:=(kA.sz b hb).2;omega
  have bB:∀ b∈B,-1000000<=b.2/\b.2<=1000000:=λ b hb=>by have:=(kB.sz b hb).2;omega
  have oA:∀ b∈A,(1:Int)<=b.1:=λ b hb=>(kA.sz b hb).1.1;have oB:∀ b∈B,(1:Int)<=b.1:=λ b hb=>(kB.sz b hb).1.1;exists bA;exists bB;exists oA;exists oB;exists k
  rcases an with ⟨rfl,ys,zs,a1,a2,h1,h2,h3,iA,iB,hd⟩|⟨rfl,pp,a1,h1,pap,hm,h4,rep⟩
  ·exists iA;exists iB;exists hd;ac_rfl;rw [zI];refine⟨A,B,ys,zs,a1,a2,h1,h2,h3,hp,hq,by omega,by omega,iA (),iB (),bA (),bB (),hd (),λ H1 e1=>?_⟩;exact k () H1 e1
  ·exists rep;exists pap;ac_rfl;rw [gv];refine⟨A,B,hp,hq,by omega,by omega,oA (),oB (),λ ks r2 H2 e2 t2 ko=>?_⟩;ac_rfl;rw [sH];exact⟨_,pp,a1,e2.at h1,(pap ()).ext e2,t2,((AxK.pull kA kB kP).tms ko).1,hm,h4,rep () ks ko,λ H3 e3=>k () H3 (e2.trans e3)⟩
theorem AxK.axes{A:List (Int × Int)}(h:AxK A):jt (A.map ae):=wO ⟨by have:=h.len;omega,λ a ha=>by have:=(h.sz a ha).1;omega⟩
theorem ug(a:Int × Int):ar (sgP (-1) a).1=ar (sgP 1 a).1:=by
 show ar (-1 * (ae a).2)=ar (1 * (ae a).2)
 unfold ar;omega
theorem oN:∀ (P Q:List (Int × Int)) (t:Int),cW (P++Q) t=cW P t+cW Q t
 | [],Q,t=>(K9 _).symm
 | z::P,Q,t=>by
  show cW (z::(P++Q)) t=_
  rw [cv,cv,oN P Q t,Int.add_assoc]
theorem uA:∀ (A:List (Int × Int)) (t:Int),cW (A.map (sgP (-1))) t=cW (A.map (sgP 1)) t
 | [],_=>rfl
 | a::A,t=>by
  rw [KZ,KZ,cv,cv,uA A t,ug];rfl
theorem zB(A B:List (Int × Int)):cW (ai (B.map ae) (A.map ae))=cW (ai (A.map ae) (B.map ae)):=by
 funext t;rw [fX,fX,oN,oN,uA,uA,Int.add_comm]
theorem EL{A B:List (Int × Int)}{t:Int}:(∃ z∈A.map (sgP 1)++B.map (sgP (-1)),ar z.1=t) ↔ (∃ a∈A,ar (sgP 1 a).1=t)\/∃ a∈B,ar (sgP 1 a).1=t:=by
 constructor
 ·rintro ⟨z,hz,e⟩
  rcases K4.mp hz with hz|hz
  ·obtain⟨a,ha,rfl⟩:=KG.mp hz;exact .inl ⟨a,ha,e⟩
  ·obtain⟨a,ha,rfl⟩:=KG.mp hz;exact .inr ⟨a,ha,by rw [←ug];exact e⟩
 ·rintro (⟨a,ha,e⟩|⟨a,ha,e⟩)
  ·exact⟨_,Ll _ (List.mem_map_of_mem ha),e⟩
  ·exact⟨_,KU _ (List.mem_map_of_mem ha),by rw [ug];exact e⟩
theorem ji.swap{ks:List Int}{A B:List (Int × Int)}(h:ji ks (ai (A.map ae) (B.map ae))):ji ks (ai (B.map ae) (A.map ae)):=by
 refine⟨h.nd,?_,λ t=>?_,h.ord⟩
 ·have:=h.len;rw [fX,Ku,Kr,Kr] at this ⊢;omega
 ·have:=h.mem t;rw [fX,EL] at this ⊢;rw [this];exact⟨λ x=>⟨x.1,x.2.symm⟩,λ x=>⟨x.1,x.2.symm⟩⟩
theorem mn{A B:List (Int × Int)}{ks:List Int}(hA:AxK A)(hB:AxK B)(hP:PrK A B)(hk:ji ks (ai (A.map ae) (B.map ae))){m:Int}(hm:dQ ((ag ks (ai (A.map ae) (B.map ae))).map λ z=>z.2)=m):(1<=2 * m - 1/\2 * m - 1<=59999)/\(∀ l,ji l (ai (A.map ae) (B.map ae))->2 * b6 l (cW (ai (A.map ae) (B.map ae))) - 1<=2 * m - 1)/\∀ l,ji l (ai (B.map ae) (A.map ae))->2 * b6 l (cW (ai (B.map ae) (A.map ae))) - 1<=2 * m - 1:=by
 rw [ip] at hm;have hp:=AxK.pull hA hB hP;have h1:=(hp.tms hk).2;have h2:=fJ (gB λ z hz=>(hp.sz z hz).1.1) ks;refine⟨by omega,λ l hl=>by rw [hl.uniq hk];omega,λ l hl=>?_⟩;rw [hl.swap.uniq hk,zB];omega
theorem uF{A B:List (Int × Int)}{ks:List Int}(hA:AxK A)(hB:AxK B)(hP:PrK A B)(hk:ji ks (ai (A.map ae) (B.map ae))):(ag ks (ai (A.map ae) (B.map ae))).length<=17/\∀ z∈ag ks (ai (A.map ae) (B.map ae)),0<=z.2.2 - z.2.1+1/\z.2.2 - z.2.1+1<=2000000000:=by
 have hp:=AxK.pull hA hB hP;have one:∀ y∈ai (A.map ae) (B.map ae),(1:Int)<=y.2:=λ y hy=>(hp.sz y hy).1.1;refine⟨by unfold ag;rw [length_map];have:=hk.len;have:=hp.len;omega,λ z hz=>?_⟩;unfold ag at hz;obtain⟨t,ht,rfl⟩:=List.mem_map.mp hz;have h1:=uB (λ x hx=>(hp.sz x hx).1) t;have h2:=gB one t;have h3:=fE (ai (A.map ae) (B.map ae)) t;have h4:=hp.len
 show 0<=br _ t - cG _ t+1/\br _ t - cG _ t+1<=_
 omega
theorem kT{A B:List (Int × Int)}{g mo:Int}{ks:List Int}{o:Option (List Int)}{pp:List (List V)}{H0 H:Hp}{r:Addr}{b:Bool}(hA:AxK A)(hB:AxK B)(hP:PrK A B)(sr:qR (A.map ae) (B.map ae) g ks o pp)(w:ShV H0 H r (A.map ae).length ks (ai (A.map ae) (B.map ae)) pp o)(hm:∀ l,ji l (ai (A.map ae) (B.map ae))->2 * b6 l (cW (ai (A.map ae) (B.map ae))) - 1<=mo)(hb:b=true ↔ lY A B g):Dp H r A B g mo b:=by
 cases o with
 | some xs=>
  obtain⟨a1,a2,w1,w2,w3⟩:=w;rw [Kr] at w2 w3;obtain⟨s1,s2,s3⟩:=Ej sr;exact .inl ⟨hb.mpr ⟨_,_,s1,s2,s3⟩,_,_,a1,a2,w1,w2,w3,s1,s2,s3⟩
 | none=>
  obtain⟨a1,_,w1,w2⟩:=w;obtain⟨h1,h2⟩:=sr.ap rfl;have h3:=hm ks sr.kok;have h4:=((AxK.pull hA hB hP).tms sr.kok);refine .inr ⟨?_,pp,a1,w1,w2,by omega,by have:=h4.2;omega,λ l hl=>by rw [hl.uniq sr.kok];exact h1⟩
  cases b with
  | false=>rfl
  | true=>
   obtain⟨ys,zs,iA,iB,e⟩:=hb.mp rfl;have jA:=oG iA;have jB:=oG iB
   have hkz:∀ z∈ai (A.map ae) (B.map ae),ar z.1=0\/ar z.1∈ks:=λ z hz=>by
    by_cases e:ar z.1=0
    ·exact .inl e
    ·exact .inr ((sr.kok.mem _).mpr ⟨e,z,hz,rfl⟩)
   obtain⟨x0,hx1,hx2⟩:=wX sr.kok.nd hkz (lh jA jB) (g:=g) (by rw [gU jA jB,fD iA,fD iB];omega);exact absurd hx2 (h1.no (λ z hz=>by have:=(h4.1.all z hz).1;omega) _ Kp x0 hx1)
theorem Dp.ext{H H':Hp}{x:Addr}{A B:List (Int × Int)}{g m:Int}{b:Bool}(h:Dp H x A B g m b)(e:Ext H H'):Dp H' x A B g m b:=by
 rcases h with ⟨hb,ys,zs,a1,a2,h1,h2,h3,r⟩|⟨hb,pp,a1,h1,h2,r⟩
 ·exact .inl ⟨hb,ys,zs,a1,a2,e.at h1,e.at h2,e.at h3,r⟩
 ·exact .inr ⟨hb,pp,a1,e.at h1,h2.ext e,r⟩
theorem vC{xs:List V}{i:Int}{k:V->Prop}(P:V->Prop)(h0:0<=i)(h1:i < xs.length)(ha:∀ v∈xs,P v)(hk:∀ v,P v->k v):aS (atI xs i) k:=BB h0 h1 λ v hv=>hk v (ha v hv)
def qS(g s0 q1 q2:Int)(i j:Nat):Prop:=(g - (i:Int) * q1 - (j:Int) * q2) % 10007=0/\0<=(g - (i:Int) * q1 - (j:Int) * q2) / 10007/\(g - (i:Int) * q1 - (j:Int) * q2) / 10007 < s0
def cY(g s0 q1 q2:Int)(n i j:Nat)(b:Bool):Prop:=b=true ↔ ((∃ i' j':Nat,i' < i/\j' < n/\qS g s0 q1 q2 i' j')\/∃ j':Nat,j' < j/\qS g s0 q1 q2 i j')
theorem cY.start{g s0 q1 q2:Int}{n:Nat}:cY g s0 q1 q2 n 0 0 false:=⟨λ h=>(by cases h),λ h=>by rcases h with ⟨_,_,h,_⟩|⟨_,h,_⟩<;>omega⟩
theorem cY.yes{g s0 q1 q2:Int}{n i j:Nat}(h:cY g s0 q1 q2 n i j true):cY g s0 q1 q2 n i (j+1) true:=⟨λ _=>by
 rcases h.mp rfl with h|⟨j',h1,h2⟩
 ·exact .inl h
 ·exact .inr ⟨j',by omega,h2⟩,λ _=>rfl⟩
theorem cY.now{g s0 q1 q2:Int}{n i j:Nat}(h:qS g s0 q1 q2 i j):cY g s0 q1 q2 n i (j+1) true:=⟨λ _=>.inr ⟨j,by omega,h⟩,λ _=>rfl⟩
theorem cY.not{g s0 q1 q2:Int}{n i j:Nat}(h:cY g s0 q1 q2 n i j false)(hn:¬ qS g s0 q1 q2 i j):cY g s0 q1 q2 n i (j+1) false:=⟨λ h=>(by cases h),λ h'=>by
 rcases h' with h'|⟨j',h1,h2⟩
 ·exact h.mpr (.inl h')
 ·by_cases e:j'=j
  ·subst e;exact absurd h2 hn
  ·exact h.mpr (.inr ⟨j',by omega,h2⟩)⟩
theorem cY.row{g s0 q1 q2:Int}{n i:Nat}{b:Bool}(h:cY g s0 q1 q2 n i n b):cY g s0 q1 q2 n (i+1) 0 b:=by
 unfold cY at h ⊢;rw [h];constructor
 ·rintro (⟨i',j',h1,h2,h3⟩|⟨j',h1,h2⟩)
  ·exact .inl ⟨i',j',by omega,h2,h3⟩
  ·exact .inl ⟨i,j',by omega,h1,h2⟩
 ·rintro (⟨i',j',h1,h2,h3⟩|⟨_,h,_⟩)
  ·by_cases e:i'=i
   ·subst e;exact .inr ⟨j',h2,h3⟩
   ·exact .inl ⟨i',j',by omega,h2,h3⟩
  ·omega
theorem cY.meet{g s0 s1 s2 q1 q2:Int}{b:Bool}(h1:0<=s1)(h2:0<=s2)(h:cY g s0 q1 q2 s2.toNat s1.toNat 0 b):b=true ↔ lY [(s0,10007),(s1,q1),(s2,q2)] [] g:=by
 unfold cY at h;rw [h];constructor
 ·rintro (⟨i,j,hi,hj,r1,r2,r3⟩|⟨_,h,_⟩)
  ·refine⟨[(g - (i:Int) * q1 - (j:Int) * q2) / 10007,i,j],[],⟨⟨r2,r3⟩,⟨by omega,by show (i:Int) < s1;omega⟩,⟨by omega,by show (j:Int) < s2;omega⟩,trivial⟩,trivial,?_⟩
   show 10007 * ((g - (i:Int) * q1 - (j:Int) * q2) / 10007)+(q1 * (i:Int)+(q2 * (j:Int)+0))=g+0
   rw [Ln q1,Ln q2];generalize (i:Int) * q1=x at *;generalize (j:Int) * q2=y at *;omega
  ·omega
 ·rintro ⟨ys,zs,iA,iB,e⟩
  match ys,zs,iA,iB with
  | [y0,y1,y2],[],⟨a0,a1,a2,_⟩,_=>
   have e':10007 * y0+(q1 * y1+(q2 * y2+0))=g+0:=e;have a0':0<=y0/\y0 < s0:=a0;have a1':0<=y1/\y1 < s1:=a1;have a2':0<=y2/\y2 < s2:=a2;obtain⟨i,rfl⟩:=Int.eq_ofNat_of_zero_le a1'.1;obtain⟨j,rfl⟩:=Int.eq_ofNat_of_zero_le a2'.1;refine .inl ⟨i,j,by omega,by omega,?_⟩;rw [Int.mul_comm q1,Int.mul_comm q2] at e';unfold qS;generalize (i:Int) * q1=x at *;generalize (j:Int) * q2=y at *;omega
abbrev m5(K:PySem.W.Frag)(a:Addr)(ns:List Int)(s:Addr)(H:Hp)(Q:VK)(E:XK):Prop:=s=a/\SqL K H a (ns.map V.int)/\ns.length<=63/\∀ H',Ext H H'->Q (.bl true) H'
def oi(K:W.Frag)(a:Addr)(ns:List Int):Sp:=λ vs H Q E=>∃ (s:Addr),vs=[.ref s]/\(m5 K a ns s H Q E)
theorem xi(K:W.Frag)(a:Addr)(ns:List Int)(s:Addr)(H:Hp)(Q:VK)(E:XK):oi K a ns [.ref s] H Q E=(m5 K a ns s H Q E):=sT (f:=λ (s:Addr)=>[.ref s]) (λ _ _ h=>by cases h;exact rfl) s
theorem wF(K:W.Frag)(a:Addr)(ns:List Int){vs:List V}{H:Hp}{Q:VK}{E:XK}(h:oi K a ns vs H Q E):vs.length=1:=qN h λ _=>rfl
theorem nk(T:Tx K mg t)(a:Addr)(ns:List Int):bq P w K mg base CX0 9 t.a__law_hard t.d__law_hard ["_law_script"] (oi K a ns):=by
 have G__law_draw:=%[cj|47] a ns;have G__law_placed:=%[eV|47];have G__law_terms:=%[dJ|47];have G__law_product:=%[eC|47];have G_shares:=%[mv|47];have G__law_right:=%[fQ|47];refine T.F__law_hard.ok aE (λ vs H Q E h=>wF _ _ _ h) (λ cdv A' outer s H vs Q E hr h=>?_)
 ·obtain⟨_,rfl,rfl,hS,hl,k⟩:=h;rename_i a;refine⟨_,%[(@dM _ _ (1) _ _ _ _ aE.nd rfl (Or.inr rfl) %[_law_draw,%[%[0|0],%[%[0|2],%[%[um,%[0|2],%[0|2]|10]|1]|1]|1]|3] ∅ %[0|7]),%[(@dM _ _ (2) _ _ _ _ aE.nd rfl (Or.inr rfl) %[(["_law_part", "_law_script", "_law_cell_here", "_law_sizes", "_law_paces", "_law_numbers", "_law_goal_here", "_law_meet", "_law_i", "_law_j", "_law_rest_here", "_law_one", "_law_here", "_law_there", "_law_most"]),(1),(aD (aa bE) ["_law_script", "_law_cell_here", "_law_sizes", "_law_paces", "_law_numbers", "_law_goal_here", "_law_meet", "_law_i", "_law_j", "_law_rest_here", "_law_one", "_law_here", "_law_there", "_law_most"] rfl rfl nofun),rfl,%[%[%[%[0|2],%[%[0|2],%[%[0|2]|1]|1]|1]|24]|20],(λ C s₀ H₀ ex pn=>%[(0),_,(show List.Nodup (["_law_part", "_law_script", "_law_cell_here", "_law_sizes", "_law_paces", "_law_numbers", "_law_goal_here", "_law_meet", "_law_i", "_law_j", "_law_rest_here", "_law_one", "_law_here", "_law_there", "_law_most"]:List Str) from by decide +kernel),rfl,(Or.inl rfl),%[0|7]|17]),(λ C s₀ H₀ ex pn=>(@aH _)),(λ C s₀ H₀ ex pn=>%[aJ,%[0|2],%[bt,%[kZ,%[2|0],%[0|0]|10],%[0|2]|10]|10]),(by intros;rfl)|21] ∅ %[0|7]),%[(@dM _ _ (3) _ _ _ _ aE.nd rfl (Or.inr rfl) %[%[%[0|2],%[%[aF,%[0|2],%[bh,%[bt,%[ef,%[1|0],%[0|2]|10],%[0|2]|10],%[0|2]|10]|10],%[%[aF,%[0|2],%[bh,%[bt,%[ef,%[1|0],%[0|2]|10],%[0|2]|10],%[0|2]|10]|10]|1]|1]|1]|24] ∅ %[0|7]),%[(@dM _ _ (4) _ _ _ _ aE.nd rfl (Or.inr rfl) %[(["_law_k", "_law_script", "_law_cell_here", "_law_sizes", "_law_paces", "_law_numbers", "_law_goal_here", "_law_meet", "_law_i", "_law_j", "_law_rest_here", "_law_one", "_law_here", "_law_there", "_law_most"]),(1),(aD (aa bE) ["_law_script", "_law_cell_here", "_law_sizes", "_law_paces", "_law_numbers", "_law_goal_here", "_law_meet", "_law_i", "_law_j", "_law_rest_here", "_law_one", "_law_here", "_law_there", "_law_most"] rfl rfl nofun),rfl,%[∅,T.z_range,%[%[0|2]|1],∅|35],(λ C s₀ H₀ ex pn=>%[(0),_,(show List.Nodup (["_law_k", "_law_script", "_law_cell_here", "_law_sizes", "_law_paces", "_law_numbers", "_law_goal_here", "_law_meet", "_law_i", "_law_j", "_law_rest_here", "_law_one", "_law_here", "_law_there", "_law_most"]:List Str) from by decide +kernel),rfl,(Or.inl rfl),%[0|7]|17]),(λ C s₀ H₀ ex pn=>(@aH _)),(λ C s₀ H₀ ex pn=>%[_law_draw,%[%[1|0],%[%[aJ,%[0|2],%[0|0]|10],%[%[aB,%[3|0],%[0|0],(λ _ _=>rfl)|11]|1]|1]|1]|3]),(by intros;rfl)|21] ∅ %[0|7]),%[%[5,aE,%[aJ,%[sum,(bz rfl),%[%[(["_law_k", "_law_script", "_law_cell_here", "_law_sizes", "_law_paces", "_law_numbers", "_law_goal_here", "_law_meet", "_law_i", "_law_j", "_law_rest_here", "_law_one", "_law_here", "_law_there", "_law_most"]),(1),(aD (aa bE) ["_law_script", "_law_cell_here", "_law_sizes", "_law_paces", "_law_numbers", "_law_goal_here", "_law_meet", "_law_i", "_law_j", "_law_rest_here", "_law_one", "_law_here", "_law_there", "_law_most"] rfl rfl nofun),rfl,%[∅,T.z_range,%[%[0|2]|1],∅|35],(λ C s₀ H₀ ex pn=>%[(0),_,(show List.Nodup (["_law_k", "_law_script", "_law_cell_here", "_law_sizes", "_law_paces", "_law_numbers", "_law_goal_here", "_law_meet", "_law_i", "_law_j", "_law_rest_here", "_law_one", "_law_here", "_law_there", "_law_most"]:List Str) from by decide +kernel),rfl,(Or.inl rfl),%[0|7]|17]),(λ C s₀ H₀ ex pn=>(@aH _)),(λ C s₀ H₀ ex pn=>%[bh,%[aB,%[5|0],%[0|0],(λ _ _=>rfl)|11],%[aB,%[4|0],%[0|0],(λ _ _=>rfl)|11]|10]),(by intros;rfl)|21]|1]|6],%[aB,%[%[%[0|2],%[%[0|2],%[%[bt,%[ef,%[1|0],%[0|2]|10],%[0|2]|10],%[%[0|2]|1]|1]|1]|1]|24],%[_law_draw,%[%[0|0],%[%[0|2],%[%[0|2]|1]|1]|1]|3],(λ _ _=>rfl)|11]|10]|4],%[%[6,aE,(@cH _ _ _ _)|4],%[%[KP,rfl,%[∅,T.z_range,%[%[aB,%[2|0],%[0|2],(λ _ _=>rfl)|11]|1],∅|35],%[7,aE|5],%[%[KP,rfl,%[∅,T.z_range,%[%[aB,%[2|0],%[0|2],(λ _ _=>rfl)|11]|1],∅|35],%[8,aE|5],%[%[9,aE,%[aF,%[aF,%[5|0],%[bh,%[7|0],%[aB,%[3|0],%[0|2],(λ _ _=>rfl)|11]|10]|10],%[bh,%[8|0],%[aB,%[3|0],%[0|2],(λ _ _=>rfl)|11]|10]|10]|4],%[%[6,aE,(@uj _ _ _ _ _ _ _ %[6|0] %[%[%[(bH hr.units),%[bt,%[9|0],%[0|2]|10],%[0|2],(af _)|28],%[(@iJ _ _ _ _ _ _ _ _ _ _ _ _ jk cI %[0|2] %[ef,%[9|0],%[0|2]|10] %[aB,%[2|0],%[0|2],(λ _ _=>rfl)|11] ∅)|33]|32]|33])|4]|12]|9],(by intros;rfl)|29]|12],(by intros;rfl)|29],%[%[(["_law_k", "_law_script", "_law_cell_here", "_law_sizes", "_law_paces", "_law_numbers", "_law_goal_here", "_law_meet", "_law_i", "_law_j", "_law_rest_here", "_law_one", "_law_here", "_law_there", "_law_most"]),(1),(10),_,aE.nd,rfl,(Or.inl rfl),(aD (aa bE) ["_law_script", "_law_cell_here", "_law_sizes", "_law_paces", "_law_numbers", "_law_goal_here", "_law_meet", "_law_i", "_law_j", "_law_rest_here", "_law_one", "_law_here", "_law_there", "_law_most"] rfl rfl nofun),rfl,%[∅,T.z_range,%[%[0|2]|1],∅|35],(λ C s₀ H₀ ex pn=>%[(0),_,(show List.Nodup (["_law_k", "_law_script", "_law_cell_here", "_law_sizes", "_law_paces", "_law_numbers", "_law_goal_here", "_law_meet", "_law_i", "_law_j", "_law_rest_here", "_law_one", "_law_here", "_law_there", "_law_most"]:List Str) from by decide +kernel),rfl,(Or.inl rfl),%[0|7]|17]),(λ C s₀ H₀ ex pn=>(@aH _)),(λ C s₀ H₀ ex pn=>%[%[%[aB,%[3|0],%[0|0],(λ _ _=>rfl)|11],%[%[aB,%[4|0],%[0|0],(λ _ _=>rfl)|11]|1]|1]|18]),∅,(by intros;rfl),%[0|7]|44],%[%[%[_law_placed,%[%[10|0],%[%[(@cc _)|24],%[%[5|0],%[%[_law_draw,%[%[0|0],%[%[0|2],%[%[0|2]|1]|1]|1]|3],%[%[_law_draw,%[%[0|0],%[%[0|2],%[%[0|2]|1]|1]|1]|3]|1]|1]|1]|1]|1]|3],(%[(2),rfl,%[%[11,aE|5],%[%[12,aE|5],(@aA _),∅|15],∅|15],∅,∅|22].mono λ _ _ _ _ h=>aU h),∅,∅,∅|38],%[%[13,aE,%[aF,%[bh,%[0|2],%[_law_product,%[%[_law_terms,%[%[10|0],%[%[(@cc _)|24]|1]|1]|3]|1]|3]|10],%[0|2]|10]|4],%[%[%[_law_right,%[%[shares,%[%[11|0],%[%[12|0],%[%[13|0]|1]|1]|1]|3],%[%[10|0],%[%[(@cc _)|24],%[%[5|0],%[%[13|0],%[%[6|0]|1]|1]|1]|1]|1]|1]|3]|13]|12]|9]|9]|9]|9]|9]|9]|9]|9]|9]|9],?_⟩;rw [show start ["_law_script", "_law_cell_here", "_law_sizes", "_law_paces", "_law_numbers", "_law_goal_here", "_law_meet", "_law_i", "_law_j", "_law_rest_here", "_law_one", "_law_here", "_law_there", "_law_most"] [.ref a]=[some (.ref a),none,none,none,none,none,none,none,none,none,none,none,none,none] from rfl];clear G__law_draw G__law_placed G__law_terms G__law_product G_shares G__law_right;exists k;ac_rfl;rw [bf];refine⟨hS,hl,⟨by decide,by decide⟩,by decide,λ c c0 c1=>?_⟩;ac_rfl;intro l1 H1 _ e1 h1;have wk:=ju (K:=K) h1;ac_rfl;refine aP [V.int 1,.int 4,.int 16] (λ _=>true) (λ z=>.int (28+c / vi z % 4)) (λ z x H'=>x=z/\H' l1=some (.lst [V.int 1,.int 4,.int 16])) wk.1 wk.2 (au (by simp)) ?_ ?_
  ·intro D z x H' N1 N0 hz hD e ⟨hx,_⟩ k1 _;subst hx
   obtain⟨n,rfl,hn,hn2⟩:∃ n:Int,x=.int n/\0 < n/\n<=16:=by
    simp only [KS,K8,LA] at hz
    rcases hz with rfl|rfl|rfl
    ·exact⟨_,rfl,by decide,by decide⟩
    ·exact⟨_,rfl,by decide,by decide⟩
    ·exact⟨_,rfl,by decide,by decide⟩
   have k1':N1 (.int (28+c / n % 4)) H':=k1 rfl H' (Ext.refl _);clear k1 hz wk;simp! only [↓aL,↓aI];exact⟨⟨by omega,by omega⟩,by rw [LL _ %[0|8]];exact k1'⟩
  intro l2 H2 hl2 e2 h2;rw [fT] at h2;have h2':H2 l2=some (.lst [.int (28+c / 1 % 4),.int (28+c / 4 % 4),.int (28+c / 16 % 4)]):=h2;obtain⟨s0,hs0⟩:∃ s0,28+c / 1 % 4=s0:=⟨_,rfl⟩;obtain⟨s1,hs1⟩:∃ s1,28+c / 4 % 4=s1:=⟨_,rfl⟩;obtain⟨s2,hs2⟩:∃ s2,28+c / 16 % 4=s2:=⟨_,rfl⟩;rw [hs0,hs1,hs2] at h2';have b0:28<=s0/\s0<=31:=by omega
  have b1:28<=s1/\s1<=31:=by omega
  have b2:28<=s2/\s2<=31:=by omega
  obtain⟨q1,hq1⟩:∃ q1,10009 - c / 64 % 2 * 20018=q1:=⟨_,rfl⟩;obtain⟨q2,hq2⟩:∃ q2,10037 - c / 128 % 2 * 20074=q2:=⟨_,rfl⟩;have b3:-11000<=q1/\q1<=11000/\q1 ≠ 0:=by omega
  have b4:-11000<=q2/\q2<=11000/\q2 ≠ 0:=by omega
  have cm1:fU (c / 64 % 2) 20018:=.inr ⟨by decide,by decide⟩;have cm2:fU (c / 128 % 2) 20074:=.inr ⟨by decide,by decide⟩;have hS2:=(e1.trans e2).2 K a _ hS;clear hs0 hs1 hs2 h2 wk hl2 h1;ac_rfl;intro l3 H3 _ e3 h3;clear hq1 hq2 cm1 cm2;have h2_3:=e3.at h2';have hS3:=e3.2 K a _ hS2;clear h2' hS2;ac_rfl
  have szk:∀ k:Nat,k < 3->∃ z,atI [V.int s0,.int s1,.int s2] (0+(k:Int))=some (.int z)/\(28<=z/\z<=31)/\[s0,s1,s2].getD k 0=z:=λ k hk=>by
   match k,hk with
   | 0,_=>exact⟨s0,rfl,b0,rfl⟩
   | 1,_=>exact⟨s1,rfl,b1,rfl⟩
   | 2,_=>exact⟨s2,rfl,b2,rfl⟩
  exists szk;refine bS (List.range 3) (λ _=>true) (λ j x H'=>x=.int (0+(j:Nat))) (λ D k y H'=>∃ n:Int,y=.int n/\0<=n/\n < [s0,s1,s2].getD k 0) cp.1 cp.2 (λ D _ y H1 H2 h e=>h) (λ D _ y H1 xs o h hD=>h) (au ⋯) ?_ ?_
  ·intro D' k x H' N1 N0 hk hD' e _ hx k1 _;subst hx;have k1':=k1 rfl;have hkr:k < 3:=K5.mp hk;obtain⟨z,z1,z2,z3⟩:=szk () k hkr;rw [z3] at k1';have hS':=e.2 K a _ hS3;have h2':=e.at h2_3;clear k1 hk h2_3 hS3 h3;simp! only [↓aL,↓aI];rw [bf];refine⟨hS',hl,⟨by omega,by omega⟩,by omega,λ n n0 n1=>?_⟩;have k2:=k1' (.int n) H' (Ext.refl _) ⟨n,rfl,n0,n1⟩;clear k1';ac_rfl
  intro l4 vs H4 hl4 e4 h4 al4;rw [fT] at al4;have hv3:vs.length=3:=al4.1
  obtain⟨v0,v1,v2,rfl⟩:∃ v0 v1 v2,vs=[v0,v1,v2]:=by
   match vs,hv3 with
   | [v0,v1,v2],_=>exact⟨v0,v1,v2,rfl⟩
  obtain⟨n0,rfl,n01,n02⟩:=al4.2 0 0 v0 rfl rfl;obtain⟨n1,rfl,n11,n12⟩:=al4.2 1 1 v1 rfl rfl;obtain⟨n2,rfl,n21,n22⟩:=al4.2 2 2 v2 rfl rfl;replace n02:n0 < s0:=n02;replace n12:n1 < s1:=n12;replace n22:n2 < s2:=n22;have h2_4:=e4.at h2_3;have h3_4:=e4.at h3;have hS4:=e4.2 K a _ hS3;clear al4 hv3 hl4 h2_3 h3 hS3;ac_rfl
  have prk:∀ k:Nat,k < 3->∃ x y,atI [V.int n0,.int n1,.int n2] (0+(k:Int))=some (.int x)/\atI [V.int 10007,.int q1,.int q2] (0+(k:Int))=some (.int y)/\(0<=x/\x<=31)/\[n0 * 10007,n1 * q1,n2 * q2].getD k 0=x * y:=λ k hk=>by
   match k,hk with
   | 0,_=>exact⟨n0,_,rfl,rfl,by omega,rfl⟩
   | 1,_=>exact⟨n1,_,rfl,rfl,by omega,rfl⟩
   | 2,_=>exact⟨n2,_,rfl,rfl,by omega,rfl⟩
  exists prk;refine aP (List.range 3) (λ _=>true) (λ k=>.int ([n0 * 10007,n1 * q1,n2 * q2].getD k 0)) (λ j x H'=>x=.int (0+(j:Nat))) cp.1 cp.2 (au ⋯) ?_ ?_
  ·intro D k x H' N1 N0 hk hD e hx k1 _;subst hx;have hkr:k < 3:=K5.mp hk;obtain⟨x,y,w1,w2,w3,w4⟩:=prk () k hkr;have k1':N1 (.int ([n0 * 10007,n1 * q1,n2 * q2].getD k 0)) H':=k1 rfl H' (Ext.refl _);rw [w4] at k1';have h4':=e.at h4;have h3':=e.at h3_4;have cm:fU x y:=.inl ⟨by omega,by omega⟩;clear k1 hk h4 h3_4 h2_4 w4;simp! only [↓aL,↓aI]
  intro l5 H5 hl5 e5 h5;rw [fT] at h5;have h5':H5 l5=some (.lst ([n0 * 10007,n1 * q1,n2 * q2].map V.int)):=h5;have h2_5:=e5.at h2_4;have h3_5:=e5.at h3_4;have hS5:=e5.2 K a _ hS4
  have mb:∀ n q:Int,0<=n->n<=31->-11000<=q->q<=11000->-341000<=n * q/\n * q<=341000:=λ n q a1 a2 a3 a4=>by
   have u1:=KI a4 a1;have u2:=KI a3 a1;omega
  have m1:=mb n1 q1 n11 %[0|8] %[0|8] %[0|8];have m2:=mb n2 q2 n21 %[0|8] %[0|8] %[0|8];have hsum:[n0 * 10007,n1 * q1,n2 * q2].sum=n0 * 10007+(n1 * q1+(n2 * q2+0)):=rfl;have hgb:∀ x:Int,0<=x->x<=1000->-10000000<=[n0 * 10007,n1 * q1,n2 * q2].sum+x/\[n0 * 10007,n1 * q1,n2 * q2].sum+x<=10000000:=λ x x0 x1=>by rw [hsum];omega
  generalize [n0 * 10007,n1 * q1,n2 * q2]=sl at h5' hgb;exists hgb;clear h5 hl5 h2_4 h3_4 hS4 prk h4 m1 m2 mb hsum n01 n02 n11 n12 n21 n22;ac_rfl;intro l6 H6 _ e6 h6;have h2_6:=e6.at h2_5;have h3_6:=e6.at h3_5;have hS6:=e6.2 K a _ hS5;clear h2_5 h3_5 hS5 h5';ac_rfl;rw [bf];refine⟨hS6,hl,⟨by decide,by decide⟩,by decide,λ d d0 d1=>?_⟩;ac_rfl;refine vC (λ v=>∃ z:Int,v=.int z/\0<=z/\z<=1000) d0 (by simpa using d1) (λ v hv=>?_) λ v hv=>?_
  ·simp only [KS,K8,LA] at hv
   rcases hv with rfl|rfl|rfl|rfl
   ·exact⟨_,rfl,by decide,by decide⟩
   ·exact⟨_,rfl,by decide,by decide⟩
   ·exact⟨_,rfl,by omega,by omega⟩
   ·exact⟨_,rfl,by decide,by decide⟩
  obtain⟨x,rfl,x0,x1⟩:=hv;have gb:=hgb () x x0 x1;have e06:=e1.trans (e2.trans (e3.trans (e4.trans (e5.trans e6))));clear hgb h6 e1 e2 e3 e4 e5 e6;ac_rfl;generalize sl.sum+x=g at *;refine⟨by omega,by omega,?_⟩;refine kq (λ i σ H'=>∃ (b:Bool) (v7 v8 v9:Option V),σ=[some (.ref a),some (.int c),some (.ref l2),some (.ref l3),some (.ref l4),some (.int g),some (.bl b),v7,v8,v9,none,none,none,none]/\H'=H6/\cY g s0 q1 q2 s2.toNat i 0 b) ⟨false,none,none,none,rfl,rfl,cY.start⟩ ?_ ?_
  ·rintro i _ _ hi ⟨b,v7,v8,v9,rfl,rfl,hb⟩;rename_i H6;have hi3:i < 31:=by have:i < s1.toNat:=hi;omega
   exists hb;clear hi k;simp! only [↓aG];refine⟨by omega,by omega,?_⟩;refine kq (λ j σ H'=>∃ (b:Bool) (v8 v9:Option V),σ=[some (.ref a),some (.int c),some (.ref l2),some (.ref l3),some (.ref l4),some (.int g),some (.bl b),some (.int (0+(i:Int))),v8,v9,none,none,none,none]/\H'=H6/\cY g s0 q1 q2 s2.toNat i j b) ⟨b,_,_,rfl,rfl,hb ()⟩ ?_ ?_
   ·clear hb;rintro j _ _ hj ⟨b,v8,v9,rfl,rfl,hb⟩;rename_i H6;have hj3:j < 31:=by have:j < s2.toNat:=hj;omega
    have cm1:fU (i:Int) q1:=.inl ⟨by omega,by omega⟩;have cm2:fU (j:Int) q2:=.inl ⟨by omega,by omega⟩;have z1:(0:Int)+(i:Int)=(i:Int):=K9 _;have z2:(0:Int)+(j:Int)=(j:Int):=K9 _;have hR:qS g s0 q1 q2 i j ↔ (g - (i:Int) * q1 - (j:Int) * q2) % 10007=0/\0<=(g - (i:Int) * q1 - (j:Int) * q2) / 10007/\(g - (i:Int) * q1 - (j:Int) * q2) / 10007 < s0:=Iff.rfl;obtain⟨rr,hrr⟩:∃ rr,g - (i:Int) * q1 - (j:Int) * q2=rr:=⟨_,rfl⟩;rw [hrr] at hR;clear hj
    cases b with
    | true=>
     have hb':=λ (_:Unit)=>hb.yes;clear hb hR;simp! only [↓aG];exact⟨_,_,_,rfl,hb' ()⟩
    | false=>
     by_cases r1:rr % 10007=0
     ·by_cases r2:0<=rr / 10007
      ·by_cases r3:rr / 10007 < s0
       ·have hb':=λ (_:Unit)=>cY.now (n:=s2.toNat) (hR.mpr ⟨r1,r2,r3⟩);clear hb hR;simp! only [↓aG];exact⟨_,_,_,rfl,hb' ()⟩
       ·have hb':=λ (_:Unit)=>hb.not λ h=>r3 (hR.mp h).2.2;clear hb hR;simp! only [↓aG];exact⟨_,_,_,rfl,hb' ()⟩
      ·have hb':=λ (_:Unit)=>hb.not λ h=>r2 (hR.mp h).2.1;clear hb hR;simp! only [↓aG];exact⟨_,_,_,rfl,hb' ()⟩
     ·have hb':=λ (_:Unit)=>hb.not λ h=>r1 (hR.mp h).1;clear hb hR;simp! only [↓aG];exact⟨_,_,_,rfl,hb' ()⟩
   ·rintro _ _ ⟨b,v8,v9,rfl,rfl,hb⟩;exact⟨b,_,_,_,rfl,rfl,hb.row⟩
  ·rintro _ _ ⟨b,v7,v8,v9,rfl,rfl,hb⟩;rename_i H6;have hme:=hb.meet %[0|8] %[0|8];exists hme;clear hb;ac_rfl
   have opk:∀ k:Nat,k < 3->∃ x y,atI [V.int s0,.int s1,.int s2] (0+(k:Int))=some (.int x)/\atI [V.int 10007,.int q1,.int q2] (0+(k:Int))=some (.int y)/\[(s0,(10007:Int)),(s1,q1),(s2,q2)].getD k (0,0)=(x,y):=λ k hk=>by
    match k,hk with
    | 0,_=>exact⟨_,_,rfl,rfl,rfl⟩
    | 1,_=>exact⟨_,_,rfl,rfl,rfl⟩
    | 2,_=>exact⟨_,_,rfl,rfl,rfl⟩
   exists opk;refine bS (List.range 3) (λ _=>true) (λ j x H'=>x=.int (0+(j:Nat))) (λ D k y H'=>axP ([(s0,(10007:Int)),(s1,q1),(s2,q2)].getD k (0,0)) y H') cp.1 cp.2 (λ D z y H1 H2 h e=>axP.ext h e) (λ D z y H1 xs o h hD=>axP.upd h hD) (au ⋯) ?_ ?_
   ·intro D' k x H' N1 N0 hk hD' e _ hx k1 _;subst hx;have k1':=k1 rfl;have hkr:k < 3:=K5.mp hk;obtain⟨x,y,w1,w2,w3⟩:=opk () k hkr;rw [w3] at k1';have h2':=e.at h2_6;have h3':=e.at h3_6;clear k1 hk h2_6 h3_6 w3;simp! only [↓aL,↓aI];intro t1 H8 _ e8 h8;exact k1' _ H8 e8 ⟨t1,rfl,h8⟩
   intro l7 vs H7 hl7 e7 h7 al7;rw [fT] at al7;have hv3:vs.length=3:=al7.1
   obtain⟨v0,v1,v2,rfl⟩:∃ v0 v1 v2,vs=[v0,v1,v2]:=by
    match vs,hv3 with
    | [v0,v1,v2],_=>exact⟨v0,v1,v2,rfl⟩
   have pA:cx H7 l7 [(s0,10007),(s1,q1),(s2,q2)]:=⟨_,h7,Al.cons' (al7.2 0 0 v0 rfl rfl) (Al.cons' (al7.2 1 1 v1 rfl rfl) (Al.cons' (al7.2 2 2 v2 rfl rfl) Al.nil))⟩
   have kA:AxK [(s0,10007),(s1,q1),(s2,q2)]:=⟨by simp,λ b hb=>by
    simp only [KS,K8,LA] at hb
    rcases hb with rfl|rfl|rfl
    ·exact⟨by show 1<=s0/\s0<=31;omega,by show (-11000:Int)<=10007/\(10007:Int)<=11000;decide⟩
    ·exact⟨by show 1<=s1/\s1<=31;omega,by show -11000<=q1/\q1<=11000;omega⟩
    ·exact⟨by show 1<=s2/\s2<=31;omega,by show -11000<=q2/\q2<=11000;omega⟩⟩
   have kB:AxK []:=⟨by simp,λ b hb=>by cases hb⟩
   have kP:PrK [(s0,10007),(s1,q1),(s2,q2)] []:=by
    show s0 * (s1 * (s2 * 1)) * 1<=30000
    have u1:=LP b1.2 b2.2 %[0|8] ⋯;have u2:=LP b0.2 u1 (Int.mul_nonneg %[0|8] %[0|8]) ⋯;rw [Mx,Mx];omega
   have hS7:=e7.2 K a _ hS6;have oA:∀ b∈[(s0,(10007:Int)),(s1,q1),(s2,q2)],(1:Int)<=b.1:=λ b hb=>(kA.sz b hb).1.1;have e07:=e06.trans e7;generalize [(s0,(10007:Int)),(s1,q1),(s2,q2)]=A at *;have a3:=kA.len;exists oA;clear al7 hv3 hl7 h7 opk h2_6 h3_6 hS6 e06 e7 hS;ac_rfl;intro l8 H8 _ e8 h8;have hS8:=e8.2 K a _ hS7;have pB:cx H8 l8 []:=⟨[],h8,Al.nil⟩;have pA8:=ay pA e8;clear hS7 h8 pA;ac_rfl;rw [bf];refine⟨hS8,hl,⟨by decide,by decide⟩,by decide,λ d3 d30 d31=>?_⟩;ac_rfl;rw [bf];refine⟨hS8,hl,⟨by decide,by decide⟩,by decide,λ d4 d40 d41=>?_⟩;ac_rfl;rw [iX];refine⟨A,[],pA8,pB,kA,kB,⟨d30,d31⟩,⟨d40,d41⟩,gb,λ room f x1 x2 r9 H9 e9 h9 v1 v2=>?_⟩;have e09:=e07.trans (e8.trans e9);have pA9:=ay pA8 e9;clear hS8 pB pA8 e07 e8 e9;ac_rfl;intro l10 H10 _ e10 h10;have pB10:cx H10 l10 []:=⟨[],h10,Al.nil⟩;clear h10 h9;ac_rfl;rw [gv];refine⟨A,[],ay pA9 e10,pB10,by omega,by simp,oA (),(λ b hb=>by cases hb),λ ks r11 H11 e11 t11 ko=>?_⟩;obtain⟨tl,tf⟩:=uF kA kB kP ko;exists tf;ac_rfl;rw [mL];refine⟨_,t11,tl,tf (),λ H12 e12=>?_⟩;obtain⟨m,hm⟩:∃ m,dQ ((ag ks (ai (A.map ae) (([]:List (Int × Int)).map ae))).map λ z=>z.2)=m:=⟨_,rfl⟩;rw [hm];obtain⟨⟨m1,m2⟩,pt1,_⟩:=mn kA kB kP ko hm;have e912:=e10.trans (e11.trans e12);have cm:fU 2 m:=.inl ⟨by decide,by decide⟩;exists pt1;clear tl tf t11 ko hm e10 e11 e12 pB10;ac_rfl;clear cm;obtain⟨mo,hmo⟩:∃ mo,2 * m - 1=mo:=⟨_,rfl⟩;rw [hmo] at pt1 m1 m2 ⊢;clear hmo;rw [eP];refine⟨room,f,f+g,_,_,v1.ext e912,v2.ext e912,kA.axes,kB.axes,m1,by omega,xC kA kB kP (pt1 ()),λ ks1 o1 pp1 r13 H13 e13 sr w1=>?_⟩;have an:=kT kA kB kP (by rw [show f+g - f=g by omega] at sr;exact sr) w1 (pt1 ()) (hme ());exists an;have pA13:=ay pA9 (e912.trans e13);clear sr w1;ac_rfl;intro l14 H14 _ e14 h14;have pB14:cx H14 l14 []:=⟨[],h14,Al.nil⟩;clear h14;ac_rfl;rw [eQ];exact⟨A,[],ay pA13 e14,pB14,kA,kB,kP,(an ()).ext e14,λ H15 e15=>k () H15 (e09.trans (e912.trans (e13.trans (e14.trans e15))))⟩
theorem y8(a:Int)(xs:List Int):inV (.int a) (xs.map V.int)=decide (a∈xs):=by
 unfold inV;rw [List.any_map];apply Bool.eq_iff_iff.mpr;rw [List.any_eq_true,decide_eq_true_eq];constructor
 ·rintro ⟨y,hy,e⟩;have e':eqV (.int y) (.int a)=true:=e;have:y=a:=by simpa [eqV] using e'
  rw [←this];exact hy
 ·intro h;exact⟨a,h,by show eqV (.int a) (.int a)=true;simp [eqV]⟩
theorem kh:∀ A:List (Int × Int),cq (A.map λ a=>a.1)=nP A
 | []=>rfl
 | a::A=>by
  show a.1 * cq (A.map λ a=>a.1)=a.1 * nP A
  rw [kh A]
theorem AxK.ax{A:List (Int × Int)}(h:AxK A):jt A:=⟨by have:=h.len;omega,λ a ha=>by have:=(h.sz a ha).1;omega⟩
theorem rm{A B:List (Int × Int)}{g:Int}{fs:List Int}(h:∀ c,c∈fs ↔ c∈bu 0 A/\c∈bu g B):(!decide (fs=[]))=true ↔ lY A B g:=by
 rw [Bool.not_eq_true',decide_eq_false_iff_not];constructor
 ·intro hn;obtain⟨c,hc⟩:=List.exists_mem_of_ne_nil fs hn;obtain⟨h1,h2⟩:=(h c).mp hc;obtain⟨ys,i1,e1⟩:=gX.mp h1;obtain⟨zs,i2,e2⟩:=gX.mp h2;exact⟨ys,zs,i1,i2,by omega⟩
 ·rintro ⟨ys,zs,i1,i2,e⟩ hn;have:(0+eS A ys)∈fs:=(h _).mpr ⟨gX.mpr ⟨ys,i1,rfl⟩,gX.mpr ⟨zs,i2,by omega⟩⟩;rw [hn] at this;cases this
abbrev Dk(K:PySem.W.Frag)(a:Addr)(H:Hp)(Q:VK)(E:XK):Prop:=∃ ns:List Int,SqL K H a (ns.map V.int)/\ns.length<=63/\∀ H',Q (.bl true) H'
def tw(K:W.Frag):Sp:=λ vs H Q E=>∃ (a:Addr),vs=[.ref a]/\(Dk K a H Q E)
theorem CH(K:W.Frag){vs:List V}{H:Hp}{Q:VK}{E:XK}(h:tw K vs H Q E):vs.length=1:=qN h λ _=>rfl
theorem EJ(T:Tx K mg t):bq P w K mg base CX0 10 t.a_law t.d_law ["_law_script"] (tw K):=by
 refine T.F_law.ok hG (λ vs H Q E h=>CH _ h) (λ cdv A' outer s H vs Q E hr h=>?_)
 ·obtain⟨a,rfl,ns,hS,hl,kk⟩:=h;have G__law_axes:=%[nt|47] a ns;have G__law_draw:=%[cj|47] a ns;have G__law_hard:=%[nk|47] a ns;have G__law_goal:=%[nq|47] a ns;have G__law_placed:=%[eV|47];have G__law_cells:=%[lG|47];have G__law_terms:=%[dJ|47];have G__law_product:=%[eC|47];have G_shares:=%[mv|47];have G_is_apart:=%[oS|47];have G__law_right:=%[fQ|47];refine⟨_,%[%[(PW.pt %[%[(bH hr.units),%[_law_draw,%[%[0|0],%[%[0|2],%[%[0|2]|1]|1]|1]|3],%[0|2],(af _)|14],%[%[%[%[_law_hard,%[%[0|0]|1]|3],(by intros;rfl)|19]|23]|37]|34]),%[%[(@cH _ _ _ _)|13]|12],(@ao _)|16],%[%[1,hG,%[aJ,%[0|2],%[_law_draw,%[%[0|0],%[%[0|2],%[%[0|2]|1]|1]|1]|3]|10]|4],%[%[2,hG,%[_law_axes,%[%[0|0],%[%[0|2],%[%[1|0]|1]|1]|1]|3]|4],%[%[3,hG,%[_law_axes,%[%[0|0],%[%[0|2],%[%[1|0]|1]|1]|1]|3]|4],%[%[4,hG,%[_law_goal,%[%[0|0],%[%[2|0],%[%[3|0],%[%[1|0]|1]|1]|1]|1]|3]|4],%[%[%[_law_placed,%[%[2|0],%[%[3|0],%[%[4|0],%[%[_law_draw,%[%[0|0],%[%[0|2],%[%[0|2]|1]|1]|1]|3],%[%[_law_draw,%[%[0|0],%[%[0|2],%[%[0|2]|1]|1]|1]|3]|1]|1]|1]|1]|1]|3],(%[(2),rfl,%[%[5,hG|5],%[%[6,hG|5],(@aA _),∅|15],∅|15],∅,∅|22].mono λ _ _ _ _ h=>aU h),∅,∅,∅|38],%[(@dM _ _ (7) _ _ _ _ hG.nd rfl (Or.inr rfl) %[_law_cells,%[%[4|0],%[%[3|0]|1]|1]|3] ∅ %[0|7]),%[%[8,hG,%[(cy hr.units),%[(["_law_cell_here", "_law_script", "_law_factor", "_law_one", "_law_other", "_law_goal_here", "_law_here", "_law_there", "_law_cells_here", "_law_meet", "_law_most", "_law_found"]),(1),(aD (aa jj) ["_law_script", "_law_factor", "_law_one", "_law_other", "_law_goal_here", "_law_here", "_law_there", "_law_cells_here", "_law_meet", "_law_most", "_law_found"] rfl rfl nofun),rfl,%[%[_law_cells,%[%[0|2],%[%[2|0]|1]|1]|3]|20],(λ C s₀ H₀ ex pn=>%[(0),_,(show List.Nodup (["_law_cell_here", "_law_script", "_law_factor", "_law_one", "_law_other", "_law_goal_here", "_law_here", "_law_there", "_law_cells_here", "_law_meet", "_law_most", "_law_found"]:List Str) from by decide +kernel),rfl,(Or.inl rfl),%[0|7]|17]),(λ C s₀ H₀ ex pn=>(@kf _ _ _ %[EF,%[0|0],%[8|0],(by with_unfolding_all rfl)|14])),(λ C s₀ H₀ ex pn=>%[0|0]),(by intros;rfl)|21],%[(@cc _)|24],(af _)|28]|4],%[%[9,hG,%[aF,%[bh,%[0|2],%[_law_product,%[%[_law_terms,%[%[2|0],%[%[3|0]|1]|1]|3]|1]|3]|10],%[0|2]|10]|4],%[%[10,hG,%[shares,%[%[5|0],%[%[6|0],%[%[9|0]|1]|1]|1]|3]|4],%[%[%[%[%[_law_right,%[%[10|0],%[%[2|0],%[%[3|0],%[%[4|0],%[%[9|0],%[%[8|0]|1]|1]|1]|1]|1]|1]|3],(by intros;rfl)|19]|23],%[%[(@cH _ _ _ _)|13]|12],(@ao _)|16],%[%[(PW.pt %[%[%[%[8|0],(by intros;rfl)|19]|23],%[%[vE,%[is_apart,%[%[5|0],%[%[6|0],%[%[aB,%[10|0],%[0|2],(λ _ _=>rfl)|11]|1]|1]|1]|3],(@cH _ _ _ _),(af _)|14]|37]|34]),%[%[(@cH _ _ _ _)|13]|12],(@ao _)|16],%[%[%[_law_right,%[%[shares,%[%[6|0],%[%[5|0],%[%[9|0]|1]|1]|1]|3],%[%[3|0],%[%[2|0],%[%[aF,%[0|2],%[4|0]|10],%[%[9|0],%[%[8|0]|1]|1]|1]|1]|1]|1]|3]|13]|12]|9]|9]|9]|9]|9]|9]|9]|9]|9]|9]|9]|9],?_⟩;rw [show start ["_law_script", "_law_factor", "_law_one", "_law_other", "_law_goal_here", "_law_here", "_law_there", "_law_cells_here", "_law_meet", "_law_most", "_law_found"] [.ref a]=[some (.ref a),none,none,none,none,none,none,none,none,none,none] from rfl];clear G__law_axes G__law_draw G__law_hard G__law_goal G__law_placed G__law_cells G__law_terms G__law_product G_shares G_is_apart G__law_right;exists kk;simp only [Ae];refine Gu (λ σ' H'=>σ'=[some (.ref a),none,none,none,none,none,none,none,none,none,none]/\Ext H H') (λ nx' hn=>?_) ?_
  ·exists hn;ac_rfl;rw [bf];refine⟨hS,hl,⟨by decide,by decide⟩,by decide,λ d0 _ _=>?_⟩
   by_cases hd:d0=3
   ·ac_rfl;rw [xi];refine⟨rfl,hS,hl,λ H1 e1=>?_⟩;have hn':=hn () _ H1 ⟨rfl,e1⟩;clear hn;ac_rfl
   ·have hn':=hn () _ H ⟨rfl,Ext.refl _⟩;clear hn;ac_rfl
  rintro _ H0 ⟨rfl,e0⟩;replace hS:=e0.2 K a _ hS;clear e0;ac_rfl;rw [bf];refine⟨hS,hl,⟨by decide,by decide⟩,by decide,λ d1 d10 d11=>?_⟩;ac_rfl;rw [mN];refine⟨rfl,hS,hl,by decide,by decide,by omega,by omega,λ A p H1 e1 p1 kA rA=>?_⟩;have hS1:=e1.2 K a _ hS;ac_rfl;rw [mN];refine⟨rfl,hS1,hl,by decide,by decide,by omega,by omega,λ B q H2 e2 p2 kB rB=>?_⟩;have hS2:=e2.2 K a _ hS1;have p1_2:=ay p1 e2;have a3:=kA.len;have b3:=kB.len;have oA:∀ b∈A,(1:Int)<=b.1:=λ b hb=>(kA.sz b hb).1.1;have oB:∀ b∈B,(1:Int)<=b.1:=λ b hb=>(kB.sz b hb).1.1
  have kP:PrK A B:=by
   unfold PrK;have:=dk oB;have u:=Int.mul_le_mul rA rB (by show 0<=nP B;have:1<=nP B:=dk oB;omega) ⋯;omega
  exists oA;exists oB;clear p1 hS hS1 e1 e2;ac_rfl;rw [xj];refine⟨rfl,hS2,hl,by omega,by omega,A,B,p1_2,p2,kA,kB,λ g H3 e3 gb=>?_⟩;have hS3:=e3.2 K a _ hS2;clear hS2 d10 d11;ac_rfl;rw [bf];refine⟨hS3,hl,⟨by decide,by decide⟩,by decide,λ d3 d30 d31=>?_⟩;ac_rfl;rw [bf];refine⟨hS3,hl,⟨by decide,by decide⟩,by decide,λ d4 d40 d41=>?_⟩;ac_rfl;rw [iX];refine⟨A,B,ay p1_2 e3,ay p2 e3,kA,kB,⟨d30,d31⟩,⟨d40,d41⟩,gb,λ room f x1 x2 r4 H4 e4 h4 v1 v2=>?_⟩;have pA4:=ay p1_2 (e3.trans e4);have pB4:=ay p2 (e3.trans e4);clear hS3 p1_2 p2 e3 e4 d30 d31 d40 d41;ac_rfl;rw [jN];refine⟨B,(let ⟨ts,h,al⟩:=pB4;⟨ts,h,tN al⟩),kB.ax,by rw [kh];omega,λ r5 H5 hr5 e5 h5=>?_⟩;clear hr5 h4;ac_rfl;rw [jN];refine⟨A,(let ⟨ts,h,al⟩:=ay pA4 e5;⟨ts,h,tN al⟩),kA.ax,by rw [kh];omega,λ r6 H6 hr6 e6 h6=>?_⟩;have h5_6:=e6.at h5;have hmc:=λ fs=>rm (A:=A) (B:=B) (g:=g) (fs:=fs)
  have hcl:(bu 0 A).length<=24:=by
   have:=jK 0 A (oA ());rw [kh] at this;omega
  exists hmc;generalize bu g B=ds at *;generalize bu 0 A=cs at *;have wk:=ju (K:=K) h6;clear hr6 h5;ac_rfl;refine aP (cs.map V.int) (λ z=>decide (vi z∈ds)) (λ z=>z) (λ z x H'=>x=z/\H' r6=some (.lst (cs.map V.int))) wk.1 wk.2 (au (by rw [Kr];omega)) ?_ ?_
  ·intro D z x H' N1 N0 hz hD e ⟨hx,_⟩ k1 k0;subst hx;obtain⟨n,_,rfl⟩:=KG.mp hz;have h5':=e.at h5_6;have hiv:=y8 n ds;have fl1:fB (.int n)=true:=rfl;have fl2:((ds.map V.int).all fB)=true:=by rw [Nc];exact LS.mpr λ _ _=>rfl
   clear hz wk hmc
   by_cases hin:n∈ds
   ·have k1':N1 (.int n) H':=k1 (KN hin) H' (Ext.refl _);clear k1 k0;rw [KN hin] at hiv;simp! only [↓aL,↓aI]
   ·have k0':N0 H':=k0 (KD hin) H' (Ext.refl _);clear k1 k0;rw [KD hin] at hiv;simp! only [↓aL,↓aI]
  intro l7 H7 hl7 e7 h7
  have hfs:(((cs.map V.int).filter λ z=>decide (vi z∈ds)).map λ z=>z)=(cs.filter λ c=>decide (c∈ds)).map V.int:=by
   rw [List.filter_map,Lh];rfl
  rw [hfs] at h7;obtain⟨fs,hfe⟩:∃ fs,(cs.filter λ c=>decide (c∈ds))=fs:=⟨_,rfl⟩;have hb:=hmc () fs (λ c=>by rw [←hfe,Lo];exact and_congr Iff.rfl decide_eq_true_iff);rw [hfe] at h7;have e47:=e5.trans (e6.trans e7);exists hb;clear hfs hfe hmc wk hl7 h6 h5_6 e5 e6 e7 hcl;ac_rfl;intro l8 H8 hl8 e8 h8;have h7_8:=e8.at h7;clear h7 hl8;ac_rfl;obtain⟨b,hbe⟩:∃ b,(!PyData.eqvAll (fs.map PyData.int) [])=b:=⟨_,rfl⟩
  have hbm:b=true ↔ lY A B g:=by
   have e1:PyData.eqvAll (fs.map PyData.int) []=decide (fs=[]):=iU fs [];rw [←hbe,e1];exact hb ()
  rw [hbe];have e48:=e47.trans e8;exists hbm;have hx:f+g - f=g:=by omega
  have hx':f - (f+g)=0 - g:=by omega
  exists hx;exists hx';clear hbe hb h7_8 h8 e47 e8 gb;rw [gv];refine⟨A,B,ay pA4 e48,ay pB4 e48,by omega,by omega,oA (),oB (),λ ks r9 H9 e9 t9 ko=>?_⟩;obtain⟨tl,tf⟩:=uF kA kB kP ko;exists tf;ac_rfl;rw [mL];refine⟨_,t9,tl,tf (),λ H10 e10=>?_⟩;obtain⟨m,hm⟩:∃ m,dQ ((ag ks (ai (A.map ae) (B.map ae))).map λ z=>z.2)=m:=⟨_,rfl⟩;rw [hm];obtain⟨⟨m1,m2⟩,pt1,pt2⟩:=mn kA kB kP ko hm;have e410:=e48.trans (e9.trans e10);have cm:fU 2 m:=.inl ⟨by decide,by decide⟩;exists pt1;exists pt2;clear tl tf t9 ko hm e9 e10 e48;ac_rfl;clear cm;obtain⟨mo,hmo⟩:∃ mo,2 * m - 1=mo:=⟨_,rfl⟩;rw [hmo] at pt1 pt2 m1 m2 ⊢;clear hmo;rw [eP];refine⟨room,f,f+g,_,_,v1.ext e410,v2.ext e410,kA.axes,kB.axes,m1,by omega,xC kA kB kP (pt1 ()),λ ks1 o1 pp1 r11 H11 e11 sr w1=>?_⟩;rw [hx ()] at sr;have an:=kT kA kB kP sr w1 (pt1 ()) (hbm ());have e411:=e410.trans e11;exists an;clear sr w1 e410 e11;ac_rfl;rw [eQ];refine⟨A,B,ay pA4 e411,ay pB4 e411,kA,kB,kP,an (),λ H12 e12=>?_⟩;have e412:=e411.trans e12;have an12:=(an ()).ext e12;clear e411 an
  have fin:∀ H13,Ext H4 H13->∀ (ks2:List Int) (o2:Option (List Int)) (pp2:List (List V)) (r14:Addr) (H14:Hp),Ext H13 H14->qR (B.map ae) (A.map ae) (f - (f+g)) ks2 o2 pp2->ShV H13 H14 r14 (B.map ae).length ks2 (ai (B.map ae) (A.map ae)) pp2 o2->Dp H14 r14 B A (0 - g) mo b:=λ H13 e13 ks2 o2 pp2 r14 H14 e14 sr w=>by
   rw [hx' ()] at sr;exact kT kB kA kP.symm sr w (pt2 ()) ((hbm ()).trans lY.swap.symm)
  exists fin
  cases b with
  | true=>
   clear an12;ac_rfl;rw [eP];refine⟨room,f+g,f,_,_,v2.ext e412,v1.ext e412,kB.axes,kA.axes,m1,by omega,xC kB kA kP.symm (pt2 ()),λ ks2 o2 pp2 r14 H14 e14 sr w=>?_⟩;have an2:=fin () H12 e412 ks2 o2 pp2 r14 H14 e14 sr w;exists an2;have e414:=e412.trans e14;clear sr w fin;ac_rfl;rw [eQ];exact⟨B,A,ay pB4 e414,ay pA4 e414,kB,kA,kP.symm,an2 (),λ H15 _=>kk () H15⟩
  | false=>
   rcases an12 with ⟨hbb,_⟩|⟨_,pp,a1,h1,pap,hm1,hm2,rep⟩
   ·cases hbb
   exists rep;exists pap;ac_rfl;rw [pj];refine⟨room,f,f+g,_,_,pp,v1.ext e412,v2.ext e412,kA.axes,kB.axes,pap (),hm2,λ l hl=>⟨((AxK.pull kA kB kP).tms hl).1,by rw [hx ()];exact rep () l hl⟩,λ H13 e13=>?_⟩;have e413:=e412.trans e13;clear pap rep h1;ac_rfl;rw [eP];refine⟨room,f+g,f,_,_,v2.ext e413,v1.ext e413,kB.axes,kA.axes,m1,by omega,xC kB kA kP.symm (pt2 ()),λ ks2 o2 pp2 r14 H14 e14 sr w=>?_⟩;have an2:=fin () H13 e413 ks2 o2 pp2 r14 H14 e14 sr w;exists an2;have e414:=e413.trans e14;clear sr w fin;ac_rfl;rw [eQ];exact⟨B,A,ay pB4 e414,ay pA4 e414,kB,kA,kP.symm,an2 (),λ H15 _=>kk () H15⟩
end
theorem JP{l:W.OpenLaw}{w:World}{K:W.Frag}{h:Heap}{mg:Str->Option Value}{fa:Addr}(X:K.In h)(G:h.Ns mainGlobals mg)(hfa:mg "law"=some (.ref fa))
  {C0:Addr} (y0:W.nsIn K mainGlobals "PaceError"=some (some (.ref C0)))
  {C1:Addr} (y1:W.nsIn K mainGlobals "NoPlace"=some (some (.ref C1)))
  {C2:Addr} (y2:W.nsIn K mainGlobals "NoView"=some (some (.ref C2)))
  {C3:Addr} (y3:W.nsIn K mainGlobals "NoPair"=some (some (.ref C3)))
  {C4:Addr} (y4:W.nsIn K mainGlobals "NoMost"=some (some (.ref C4)))
  {C5:Addr} (y5:W.nsIn K mainGlobals "View"=some (some (.ref C5)))
  {f0:Addr} {d0:FuncData} (a0:W.nsIn K mainGlobals "is_whole"=some (some (.ref f0))) (F0:Fun K "is_whole" "is_whole" gg f0 d0)
  {f1:Addr} {d1:FuncData} (a1:W.nsIn K mainGlobals "divisor"=some (some (.ref f1))) (F1:Fun K "divisor" "divisor" iF f1 d1)
  {f2:Addr} {d2:FuncData} (a2:W.nsIn K mainGlobals "divisor_of"=some (some (.ref f2))) (F2:Fun K "divisor_of" "divisor_of" ek f2 d2)
  {f3:Addr} {d3:FuncData} (a3:W.nsIn K mainGlobals "least_sum"=some (some (.ref f3))) (F3:Fun K "least_sum" "least_sum" dB f3 d3)
  {f4:Addr} {d4:FuncData} (a4:W.nsIn K mainGlobals "greatest_sum"=some (some (.ref f4))) (F4:Fun K "greatest_sum" "greatest_sum" b8 f4 d4)
  {f5:Addr} {d5:FuncData} (a5:W.nsIn K mainGlobals "rest_of"=some (some (.ref f5))) (F5:Fun K "rest_of" "rest_of" fG f5 d5)
  {f6:Addr} {d6:FuncData} (a6:W.nsIn K mainGlobals "end_of"=some (some (.ref f6))) (F6:Fun K "end_of" "end_of" kS f6 d6)
  {f7:Addr} {d7:FuncData} (a7:W.nsIn K mainGlobals "is_number_below"=some (some (.ref f7))) (F7:Fun K "is_number_below" "is_number_below" du f7 d7)
  {f8:Addr} {d8:FuncData} (a8:W.nsIn K mainGlobals "is_place"=some (some (.ref f8))) (F8:Fun K "is_place" "is_place" jD f8 d8)
  {f9:Addr} {d9:FuncData} (a9:W.nsIn K mainGlobals "is_within"=some (some (.ref f9))) (F9:Fun K "is_within" "is_within" fh f9 d9)
  {f10:Addr} {d10:FuncData} (a10:W.nsIn K mainGlobals "is_size"=some (some (.ref f10))) (F10:Fun K "is_size" "is_size" iC f10 d10)
  {f11:Addr} {d11:FuncData} (a11:W.nsIn K mainGlobals "is_axis"=some (some (.ref f11))) (F11:Fun K "is_axis" "is_axis" iD f11 d11)
  {f12:Addr} {d12:FuncData} (a12:W.nsIn K mainGlobals "are_axes"=some (some (.ref f12))) (F12:Fun K "are_axes" "are_axes" eK f12 d12)
  {f13:Addr} {d13:FuncData} (a13:W.nsIn K mainGlobals "kept_axis"=some (some (.ref f13))) (F13:Fun K "kept_axis" "kept_axis" fg f13 d13)
  {f14:Addr} {d14:FuncData} (F14:Fun K "__init__" "View.__init__" bY f14 d14)
  {f15:Addr} {d15:FuncData} (F15:Fun K "sizes" "View.sizes" gC f15 d15)
  {f16:Addr} {d16:FuncData} (F16:Fun K "paces" "View.paces" gD f16 d16)
  {f17:Addr} {d17:FuncData} (F17:Fun K "cell" "View.cell" iO f17 d17)
  {f18:Addr} {d18:FuncData} (F18:Fun K "least" "View.least" cR f18 d18)
  {f19:Addr} {d19:FuncData} (F19:Fun K "greatest" "View.greatest" bX f19 d19)
  {f20:Addr} {d20:FuncData} (a20:W.nsIn K mainGlobals "refuse_rooms"=some (some (.ref f20))) (F20:Fun K "refuse_rooms" "refuse_rooms" c8 f20 d20)
  {f21:Addr} {d21:FuncData} (a21:W.nsIn K mainGlobals "pulls"=some (some (.ref f21))) (F21:Fun K "pulls" "pulls" il f21 d21)
  {f22:Addr} {d22:FuncData} (a22:W.nsIn K mainGlobals "gathered"=some (some (.ref f22))) (F22:Fun K "gathered" "gathered" eJ f22 d22)
  {f23:Addr} {d23:FuncData} (a23:W.nsIn K mainGlobals "first_case"=some (some (.ref f23))) (F23:Fun K "first_case" "first_case" cM f23 d23)
  {f24:Addr} {d24:FuncData} (a24:W.nsIn K mainGlobals "parted"=some (some (.ref f24))) (F24:Fun K "parted" "parted" kR f24 d24)
  {f25:Addr} {d25:FuncData} (a25:W.nsIn K mainGlobals "numbers_at_once"=some (some (.ref f25))) (F25:Fun K "numbers_at_once" "numbers_at_once" aV f25 d25)
  {f26:Addr} {d26:FuncData} (a26:W.nsIn K mainGlobals "narrowed"=some (some (.ref f26))) (F26:Fun K "narrowed" "narrowed" gf f26 d26)
  {f27:Addr} {d27:FuncData} (a27:W.nsIn K mainGlobals "parting"=some (some (.ref f27))) (F27:Fun K "parting" "parting" iy f27 d27)
  {f28:Addr} {d28:FuncData} (a28:W.nsIn K mainGlobals "places_by_numbers"=some (some (.ref f28))) (F28:Fun K "places_by_numbers" "places_by_numbers" bF f28 d28)
  {D29:Addr} {qc29:Value} {qd29:Option Addr} {qn29:Nat} {qs29:Array (Option Value)} {dk29:Tok}
  {f29:Addr} {od29 an29:Option Addr} {sl29:Array (Option Value)} {oc29 kV29 dc29 pm29 cd29 ct29:Value}
  (a29:W.nsIn K mainGlobals "shares"=some (some (.ref f29))) (l29:K.lookup f29=some ⟨oc29,od29,.func (W.fnOf "shares" "shares" (cZ eF) (cn eF) (aa eF) (.ref D29) kV29 dc29 pm29 an29 cd29 ct29),sl29⟩)
  (q29:K.lookup D29=some ⟨qc29,qd29,.seq #[Value.int 1000 dk29] qn29,qs29⟩)
  (c29:W.codeIn K cd29 "shares"=true) (k29:W.keepIn K (.ref f29)=true)
  {f30:Addr} {d30:FuncData} (a30:W.nsIn K mainGlobals "is_step"=some (some (.ref f30))) (F30:Fun K "is_step" "is_step" fH f30 d30)
  {f31:Addr} {d31:FuncData} (a31:W.nsIn K mainGlobals "divides_all"=some (some (.ref f31))) (F31:Fun K "divides_all" "divides_all" cw f31 d31)
  {f32:Addr} {d32:FuncData} (a32:W.nsIn K mainGlobals "ends_by"=some (some (.ref f32))) (F32:Fun K "ends_by" "ends_by" iE f32 d32)
  {f33:Addr} {d33:FuncData} (a33:W.nsIn K mainGlobals "parts_by"=some (some (.ref f33))) (F33:Fun K "parts_by" "parts_by" gd f33 d33)
  {f34:Addr} {d34:FuncData} (a34:W.nsIn K mainGlobals "is_apart"=some (some (.ref f34))) (F34:Fun K "is_apart" "is_apart" gh f34 d34)
  {f35:Addr} {d35:FuncData} (a35:W.nsIn K mainGlobals "_law_draw"=some (some (.ref f35))) (F35:Fun K "_law_draw" "_law_draw" fk f35 d35)
  {f36:Addr} {d36:FuncData} (a36:W.nsIn K mainGlobals "_law_whole"=some (some (.ref f36))) (F36:Fun K "_law_whole" "_law_whole" eo f36 d36)
  {f37:Addr} {d37:FuncData} (a37:W.nsIn K mainGlobals "_law_axes"=some (some (.ref f37))) (F37:Fun K "_law_axes" "_law_axes" fm f37 d37)
  {f38:Addr} {d38:FuncData} (a38:W.nsIn K mainGlobals "_law_placed"=some (some (.ref f38))) (F38:Fun K "_law_placed" "_law_placed" bV f38 d38)
  {f39:Addr} {d39:FuncData} (a39:W.nsIn K mainGlobals "_law_terms"=some (some (.ref f39))) (F39:Fun K "_law_terms" "_law_terms" cN f39 d39)
  {f40:Addr} {d40:FuncData} (a40:W.nsIn K mainGlobals "_law_product"=some (some (.ref f40))) (F40:Fun K "_law_product" "_law_product" c9 f40 d40)
  {f41:Addr} {d41:FuncData} (a41:W.nsIn K mainGlobals "_law_is_place"=some (some (.ref f41))) (F41:Fun K "_law_is_place" "_law_is_place" cE f41 d41)
  {f42:Addr} {d42:FuncData} (a42:W.nsIn K mainGlobals "_law_cell"=some (some (.ref f42))) (F42:Fun K "_law_cell" "_law_cell" dD f42 d42)
  {f43:Addr} {d43:FuncData} (a43:W.nsIn K mainGlobals "_law_met"=some (some (.ref f43))) (F43:Fun K "_law_met" "_law_met" gj f43 d43)
  {f44:Addr} {d44:FuncData} (a44:W.nsIn K mainGlobals "_law_sums"=some (some (.ref f44))) (F44:Fun K "_law_sums" "_law_sums" cC f44 d44)
  {f45:Addr} {d45:FuncData} (a45:W.nsIn K mainGlobals "_law_divisor"=some (some (.ref f45))) (F45:Fun K "_law_divisor" "_law_divisor" da f45 d45)
  {f46:Addr} {d46:FuncData} (a46:W.nsIn K mainGlobals "_law_ended"=some (some (.ref f46))) (F46:Fun K "_law_ended" "_law_ended" cP f46 d46)
  {f47:Addr} {d47:FuncData} (a47:W.nsIn K mainGlobals "_law_rest"=some (some (.ref f47))) (F47:Fun K "_law_rest" "_law_rest" fi f47 d47)
  {f48:Addr} {d48:FuncData} (a48:W.nsIn K mainGlobals "_law_behind"=some (some (.ref f48))) (F48:Fun K "_law_behind" "_law_behind" dH f48 d48)
  {f49:Addr} {d49:FuncData} (a49:W.nsIn K mainGlobals "_law_left"=some (some (.ref f49))) (F49:Fun K "_law_left" "_law_left" dC f49 d49)
  {f50:Addr} {d50:FuncData} (a50:W.nsIn K mainGlobals "_law_apart"=some (some (.ref f50))) (F50:Fun K "_law_apart" "_law_apart" et f50 d50)
  {f51:Addr} {d51:FuncData} (a51:W.nsIn K mainGlobals "_law_cells"=some (some (.ref f51))) (F51:Fun K "_law_cells" "_law_cells" cQ f51 d51)
  {f52:Addr} {d52:FuncData} (a52:W.nsIn K mainGlobals "_law_place"=some (some (.ref f52))) (F52:Fun K "_law_place" "_law_place" cO f52 d52)
  {f53:Addr} {d53:FuncData} (a53:W.nsIn K mainGlobals "_law_goal"=some (some (.ref f53))) (F53:Fun K "_law_goal" "_law_goal" fj f53 d53)
  {f54:Addr} {d54:FuncData} (a54:W.nsIn K mainGlobals "_law_right"=some (some (.ref f54))) (F54:Fun K "_law_right" "_law_right" er f54 d54)
  {f55:Addr} {d55:FuncData} (a55:W.nsIn K mainGlobals "_law_hard"=some (some (.ref f55))) (F55:Fun K "_law_hard" "_law_hard" bE f55 d55)
  {f56:Addr} {od56 an56:Option Addr} {sl56:Array (Option Value)} {oc56 kV56 dc56 pm56 cd56 ct56:Value}
  (a56:W.nsIn K mainGlobals "law"=some (some (.ref f56))) (l56:K.lookup f56=some ⟨oc56,od56,.func (W.fnOf "law" "law" (cZ jj) (cn jj) (aa jj) .none kV56 dc56 pm56 an56 cd56 ct56),sl56⟩)
  (c56:W.codeIn K cd56 "law"=true) (k56:W.keepIn K (.ref f56)=true)
  (pg_View:W.plainGet K C5 Str.empty=true)
  (hd_View:W.hasDictIn K C5=true)
  (po_View:W.plainOver K C5=true)
  (sa_View:W.findIn K (.ref C5) "__setattr__"=some (some (.builtin "object.__setattr__")))
  (nf_View_axes:W.findIn K (.ref C5) "axes"=some none)
  (nf_View_first:W.findIn K (.ref C5) "first"=some none)
  (nf_View_room:W.findIn K (.ref C5) "room"=some none)
  (fi_View___init__:W.findIn K (.ref C5) "__init__"=some (some (.ref f14)))
  (fn_View___init__:W.isFn K (.ref f14)=true)
  (mm_View:W.makesIn K C5=true)
  (ck_View:W.keepIn K (.ref C5)=true)
  (fi_View_sizes:W.findIn K (.ref C5) "sizes"=some (some (.ref f15)))
  (fn_View_sizes:W.isFn K (.ref f15)=true)
  (fi_View_paces:W.findIn K (.ref C5) "paces"=some (some (.ref f16)))
  (fn_View_paces:W.isFn K (.ref f16)=true)
  (fi_View_cell:W.findIn K (.ref C5) "cell"=some (some (.ref f17)))
  (fn_View_cell:W.isFn K (.ref f17)=true)
  (fi_View_least:W.findIn K (.ref C5) "least"=some (some (.ref f18)))
  (fn_View_least:W.isFn K (.ref f18)=true)
  (fi_View_greatest:W.findIn K (.ref C5) "greatest"=some (some (.ref f19)))
  (fn_View_greatest:W.isFn K (.ref f19)=true)
  {tk0:Tok} (w0:W.nsIn K mainGlobals "MOST_ROOM"=some (some (.int 1000000000000000000 tk0)))
  {tk1:Tok} (w1:W.nsIn K mainGlobals "MOST_SIZE"=some (some (.int 1000000000 tk1)))
  {tk2:Tok} (w2:W.nsIn K mainGlobals "MOST_AXES"=some (some (.int 8 tk2)))
  {tk3:Tok} (w3:W.nsIn K mainGlobals "MOST_CASES"=some (some (.int 100000 tk3)))
  (z0:W.nsIn K mainGlobals "ValueError"=some none)
  (z1:W.nsIn K mainGlobals "abs"=some none)
  (z2:W.nsIn K mainGlobals "all"=some none)
  (z3:W.nsIn K mainGlobals "bool"=some none)
  (z4:W.nsIn K mainGlobals "enumerate"=some none)
  (z5:W.nsIn K mainGlobals "int"=some none)
  (z6:W.nsIn K mainGlobals "isinstance"=some none)
  (z7:W.nsIn K mainGlobals "len"=some none)
  (z8:W.nsIn K mainGlobals "list"=some none)
  (z9:W.nsIn K mainGlobals "max"=some none)
  (z10:W.nsIn K mainGlobals "min"=some none)
  (z11:W.nsIn K mainGlobals "range"=some none)
  (z12:W.nsIn K mainGlobals "sorted"=some none)
  (z13:W.nsIn K mainGlobals "str"=some none)
  (z14:W.nsIn K mainGlobals "sum"=some none)
  (z15:W.nsIn K mainGlobals "tuple"=some none)
  (z16:W.nsIn K mainGlobals "zip"=some none)
  : ∃ fd:FuncData,(∀ (s:Shared) (v:Value),BindsTo s fd ⟨[v],[]⟩ [("_law_script",v)])/\∀ base:Heap,K.In base->base.Ns mainGlobals mg->bq l.prog w K mg base CX0 10 fa fd ["_law_script"] (tw K):=by
 have e:=hfa.symm.trans (KO X G a56);cases e;have F29:=C6 (st:=eF) l29 c29 k29;have F56:=Gv (st:=jj) l56 c56 k56;have T:Tx K mg ⟨C0,C1,C2,C3,C4,C5,f0,_,f1,_,f2,_,f3,_,f4,_,f5,_,f6,_,f7,_,f8,_,f9,_,f10,_,f11,_,f12,_,f13,_,f14,_,f15,_,f16,_,f17,_,f18,_,f19,_,f20,_,f21,_,f22,_,f23,_,f24,_,f25,_,f26,_,f27,_,f28,_,f29,_,f30,_,f31,_,f32,_,f33,_,f34,_,f35,_,f36,_,f37,_,f38,_,f39,_,f40,_,f41,_,f42,_,f43,_,f44,_,f45,_,f46,_,f47,_,f48,_,f49,_,f50,_,f51,_,f52,_,f53,_,f54,_,f55,_,fa,_⟩:=⟨KO X G y0,KO X G y1,KO X G y2,KO X G y3,KO X G y4,KO X G y5,⟨_,KO X G w0⟩,⟨_,KO X G w1⟩,⟨_,KO X G w2⟩,⟨_,KO X G w3⟩,⟨pg_View,hd_View,po_View,sa_View⟩,nf_View_axes,nf_View_first,nf_View_room,⟨mm_View,fi_View___init__,fn_View___init__,ck_View⟩,⟨fi_View_sizes,fn_View_sizes,F15.kp⟩,⟨fi_View_paces,fn_View_paces,F16.kp⟩,⟨fi_View_cell,fn_View_cell,F17.kp⟩,⟨fi_View_least,fn_View_least,F18.kp⟩,⟨fi_View_greatest,fn_View_greatest,F19.kp⟩,F0,KO X G a0,F0.binds (ps:=["thing"]) (λ _ _ _ _ _ _=>lU (λ _=>rfl)),F1,KO X G a1,F1.binds (ps:=["one", "other"]) (λ _ _ _ _ _ _=>nM (λ _ _=>rfl)),F2,KO X G a2,F2.binds (ps:=["numbers"]) (λ _ _ _ _ _ _=>lU (λ _=>rfl)),F3,KO X G a3,F3.binds (ps:=["terms", "case"]) (λ _ _ _ _ _ _=>nM (λ _ _=>rfl)),F4,KO X G a4,F4.binds (ps:=["terms", "case"]) (λ _ _ _ _ _ _=>nM (λ _ _=>rfl)),F5,KO X G a5,F5.binds (ps:=["terms", "case"]) (λ _ _ _ _ _ _=>nM (λ _ _=>rfl)),F6,KO X G a6,F6.binds (ps:=["terms", "goal", "case"]) (λ _ _ _ _ _ _=>pF (λ _ _ _=>rfl)),F7,KO X G a7,F7.binds (ps:=["thing", "bound"]) (λ _ _ _ _ _ _=>nM (λ _ _=>rfl)),F8,KO X G a8,F8.binds (ps:=["sizes", "thing"]) (λ _ _ _ _ _ _=>nM (λ _ _=>rfl)),F9,KO X G a9,F9.binds (ps:=["thing", "low", "high"]) (λ _ _ _ _ _ _=>pF (λ _ _ _=>rfl)),F10,KO X G a10,F10.binds (ps:=["thing"]) (λ _ _ _ _ _ _=>lU (λ _=>rfl)),F11,KO X G a11,F11.binds (ps:=["thing"]) (λ _ _ _ _ _ _=>lU (λ _=>rfl)),F12,KO X G a12,F12.binds (ps:=["thing"]) (λ _ _ _ _ _ _=>lU (λ _=>rfl)),F13,KO X G a13,F13.binds (ps:=["axis"]) (λ _ _ _ _ _ _=>lU (λ _=>rfl)),F14,F14.binds (ps:=["self", "room", "first", "axes"]) (λ _ _ _ _ _ _=>sW (λ _ _ _ _=>rfl)),F15,F15.binds (ps:=["self"]) (λ _ _ _ _ _ _=>lU (λ _=>rfl)),F16,F16.binds (ps:=["self"]) (λ _ _ _ _ _ _=>lU (λ _=>rfl)),F17,F17.binds (ps:=["self", "place"]) (λ _ _ _ _ _ _=>nM (λ _ _=>rfl)),F18,F18.binds (ps:=["self"]) (λ _ _ _ _ _ _=>lU (λ _=>rfl)),F19,F19.binds (ps:=["self"]) (λ _ _ _ _ _ _=>lU (λ _=>rfl)),F20,KO X G a20,F20.binds (ps:=["one", "other"]) (λ _ _ _ _ _ _=>nM (λ _ _=>rfl)),F21,KO X G a21,F21.binds (ps:=["one", "other"]) (λ _ _ _ _ _ _=>nM (λ _ _=>rfl)),F22,KO X G a22,F22.binds (ps:=["one", "other"]) (λ _ _ _ _ _ _=>nM (λ _ _=>rfl)),F23,KO X G a23,F23.binds (ps:=["terms"]) (λ _ _ _ _ _ _=>lU (λ _=>rfl)),F24,KO X G a24,F24.binds (ps:=["case", "k", "at"]) (λ _ _ _ _ _ _=>pF (λ _ _ _=>rfl)),F25,KO X G a25,F25.binds (ps:=["terms", "goal", "case"]) (λ _ _ _ _ _ _=>pF (λ _ _ _=>rfl)),F26,KO X G a26,F26.binds (ps:=["times", "bounds", "above_least", "below_greatest"]) (λ _ _ _ _ _ _=>sW (λ _ _ _ _=>rfl)),F27,KO X G a27,F27.binds (ps:=["terms", "goal", "case"]) (λ _ _ _ _ _ _=>pF (λ _ _ _=>rfl)),F28,KO X G a28,F28.binds (ps:=["one", "other", "terms", "numbers"]) (λ _ _ _ _ _ _=>sW (λ _ _ _ _=>rfl)),F29,KO X G a29,(λ s us hin hl=>match us,(show us.length=3 by simp only [Ku,KY,Mo] at hl;omega) with|[_,_,_],_=>BindsTo.of_defaults rfl (hin _ _ q29) rfl rfl rfl),⟨_,(λ s us hin hl=>match us,(show us.length=2 by simp only [Ku,KY,Mo] at hl;omega) with|[_,_],_=>BindsTo.of_defaults rfl (hin _ _ q29) rfl rfl rfl)⟩,F30,KO X G a30,F30.binds (ps:=["thing", "word", "many"]) (λ _ _ _ _ _ _=>pF (λ _ _ _=>rfl)),F31,KO X G a31,F31.binds (ps:=["terms", "case", "number"]) (λ _ _ _ _ _ _=>pF (λ _ _ _=>rfl)),F32,KO X G a32,F32.binds (ps:=["terms", "goal", "case", "step"]) (λ _ _ _ _ _ _=>sW (λ _ _ _ _=>rfl)),F33,KO X G a33,F33.binds (ps:=["case", "step"]) (λ _ _ _ _ _ _=>nM (λ _ _=>rfl)),F34,KO X G a34,F34.binds (ps:=["one", "other", "paper"]) (λ _ _ _ _ _ _=>pF (λ _ _ _=>rfl)),F35,KO X G a35,F35.binds (ps:=["_law_script", "_law_k", "_law_many"]) (λ _ _ _ _ _ _=>pF (λ _ _ _=>rfl)),F36,KO X G a36,F36.binds (ps:=["_law_found"]) (λ _ _ _ _ _ _=>lU (λ _=>rfl)),F37,KO X G a37,F37.binds (ps:=["_law_script", "_law_at", "_law_factor"]) (λ _ _ _ _ _ _=>pF (λ _ _ _=>rfl)),F38,KO X G a38,F38.binds (ps:=["_law_one", "_law_other", "_law_goal_here", "_law_low", "_law_more"]) (λ _ _ _ _ _ _=>Jl (λ _ _ _ _ _=>rfl)),F39,KO X G a39,F39.binds (ps:=["_law_one", "_law_other"]) (λ _ _ _ _ _ _=>nM (λ _ _=>rfl)),F40,KO X G a40,F40.binds (ps:=["_law_terms_here"]) (λ _ _ _ _ _ _=>lU (λ _=>rfl)),F41,KO X G a41,F41.binds (ps:=["_law_place_here", "_law_axes_here"]) (λ _ _ _ _ _ _=>nM (λ _ _=>rfl)),F42,KO X G a42,F42.binds (ps:=["_law_first", "_law_axes_here", "_law_place_here"]) (λ _ _ _ _ _ _=>pF (λ _ _ _=>rfl)),F43,KO X G a43,F43.binds (ps:=["_law_found", "_law_one", "_law_other", "_law_goal_here"]) (λ _ _ _ _ _ _=>sW (λ _ _ _ _=>rfl)),F44,KO X G a44,F44.binds (ps:=["_law_terms_here", "_law_case"]) (λ _ _ _ _ _ _=>nM (λ _ _=>rfl)),F45,KO X G a45,F45.binds (ps:=["_law_numbers"]) (λ _ _ _ _ _ _=>lU (λ _=>rfl)),F46,KO X G a46,F46.binds (ps:=["_law_terms_here", "_law_goal_here", "_law_case"]) (λ _ _ _ _ _ _=>pF (λ _ _ _=>rfl)),F47,KO X G a47,F47.binds (ps:=["_law_terms_here", "_law_goal_here", "_law_case", "_law_by"]) (λ _ _ _ _ _ _=>sW (λ _ _ _ _=>rfl)),F48,KO X G a48,F48.binds (ps:=["_law_terms_here", "_law_goal_here", "_law_case", "_law_step"]) (λ _ _ _ _ _ _=>sW (λ _ _ _ _=>rfl)),F49,KO X G a49,F49.binds (ps:=["_law_terms_here", "_law_goal_here", "_law_paper", "_law_bare"]) (λ _ _ _ _ _ _=>sW (λ _ _ _ _=>rfl)),F50,KO X G a50,F50.binds (ps:=["_law_found", "_law_terms_here", "_law_goal_here", "_law_most"]) (λ _ _ _ _ _ _=>sW (λ _ _ _ _=>rfl)),F51,KO X G a51,F51.binds (ps:=["_law_first", "_law_axes_here"]) (λ _ _ _ _ _ _=>nM (λ _ _=>rfl)),F52,KO X G a52,F52.binds (ps:=["_law_script", "_law_at", "_law_axes_here"]) (λ _ _ _ _ _ _=>pF (λ _ _ _=>rfl)),F53,KO X G a53,F53.binds (ps:=["_law_script", "_law_one", "_law_other", "_law_factor"]) (λ _ _ _ _ _ _=>sW (λ _ _ _ _=>rfl)),F54,KO X G a54,F54.binds (ps:=["_law_found", "_law_one", "_law_other", "_law_goal_here", "_law_most", "_law_meet"]) (λ _ _ _ _ _ _=>J8 (λ _ _ _ _ _ _=>rfl)),F55,KO X G a55,F55.binds (ps:=["_law_script"]) (λ _ _ _ _ _ _=>lU (λ _=>rfl)),F56,KO X G a56,F56.binds (ps:=["_law_script"]) (λ _ _ _ _ _ _=>lU (λ _=>rfl)),K7 X G z0,K7 X G z1,K7 X G z2,K7 X G z3,K7 X G z4,K7 X G z5,K7 X G z6,K7 X G z7,K7 X G z8,K7 X G z9,K7 X G z10,K7 X G z11,K7 X G z12,K7 X G z13,K7 X G z14,K7 X G z15,K7 X G z16⟩;exact⟨W.fnOf "law" "law" (cZ jj) (cn jj) (aa jj) .none kV56 dc56 pm56 an56 cd56 ct56,λ s v=>.of_eq rfl,λ base _ _=>EJ T⟩
theorem Kj{l:W.OpenLaw}{q:Program}{loose:List Str}{XP:(Str->Option Value)->Heap->Prop}{YP:World->Heap->Prop}{d:DefRec}{K:Params->W.Frag}(hn:l.most=some 63)(hdf:d.params.defaults=[])
  (hY:∀ (w:World) (h:Heap),YP w h->(K w.params).In h)
  (F:∀ (w:World) (mg:Str->Option Value) (fa:Addr) (h:Heap),(K w.params).In h->h.Ns mainGlobals mg->mg d.name=some (.ref fa) →
   ∃ fd:FuncData,(∀ (s:Shared) (u:Value),BindsTo s fd ⟨[u],[]⟩ [("_law_script",u)])/\∀ base:Heap,(K w.params).In base->base.Ns mainGlobals mg->bq l.prog w (K w.params) mg base CX0 10 fa fd ["_law_script"] (tw (K w.params))) :
  W.WalkO q loose XP YP l.row.toRowW d [] (λ f vs=>PySem.call f vs):=
 L2.IQ (n:=63) (k:=10) (x := "_law_script") (CX:=λ _=>CX0) (sp:=λ w=>tw (K w.params)) hn ⋯ hdf ⟨rfl,by decide,by decide⟩ hY F (λ _ _ a ns hl _ hS=>⟨a,rfl,ns,hS,hl,λ _=>rfl⟩) λ _ _ _ _ _ z=>z
end PH
namespace PySem.W.Fast
def tw8521327944670134521:=0
def tw18067435893349372587:=0
def tw6947387200556367531:=0
def tw7323579192861591350:=0
def tw16149102722665435027:=0
def tw14405758696941687334:=0
def tw15262626203884023180:=0
def tw7002762788089983072:=0
def tw6200585940717021754:=0
def tw5548841670487492413:=0
def tw10541393715700586677:=0
def tw17631206731251712218:=0
def tw6952755953499591289:=0
def tw10096557871307569969:=0
def tw7338094596475713304:=0
def tw5430599882267134536:=0
def tw10926094290181383397:=0
def tw5757980618885524463:=0
def tw12214551420912216620:=0
def tw3256972294213754489:=0
def tw6910180115542251970:=0
def tw17165667625475898928:=0
def tw4390907110858925355:=0
def tw12455798694024192450:=0
def tw13179833500780309857:=0
def tw9033189871246397932:=0
def tw11690527743548510216:=0
def tw11798762256539480878:=0
def tw5143164903124544199:=0
def tw17374640356672859303:=0
def tw13871607029233983270:=0
def tw17513642136212687475:=0
def tw10600822300665059249:=0
def tw12790158381194536542:=0
def tw11676663964350529053:=0
def tw1994220031029676921:=0
def tw3035602755548369972:=0
def tw12589588012681196189:=0
def tw6639874042608108963:=0
def tw15461621210945185983:=0
def tw1030740121665072704:=0
def tw18387798169475450882:=0
def tw15309032177353940857:=0
def tw12892402590037312612:=0
def tw6613209139827608413:=0
def tw10381637773711599293:=0
def tw12950030335276313901:=0
def tw17002980903198907219:=0
def tw17634672224953152348:=0
def tw15412847851520431473:=0
def tw15571464187505159318:=0
def tw11487078410174387917:=0
def tw17572600003169075936:=0
def tw5989398313988701144:=0
def tw13559508105773858298:=0
def tw6577452293231851860:=0
def tw11012192638457725574:=0
def tw9503217302341449088:=0
def tw6015002231140128908:=0
def tw7667176428969607588:=0
def tw12322097784337034358:=0
def tw16493206489708034381:=0
def tw12046447316611129163:=0
def tw5886289904647287228:=0
def tw9447367852357624870:=0
def tw11431474628757499595:=0
def tw4266383122363949717:=0
def tw4737840343421657209:=0
def tw7935152994500903661:=0
def tw13246018347270768848:=0
def tw16724539421328144912:=0
def tw2763482595548080962:=0
def tw15631069637931910265:=0
def tw7383718560278544452:=0
def tw15437330653423439598:=0
def tw5955788273124587461:=0
def tw10985949821842534996:=0
def tw8979577205954823719:=0
def tw12899847349017569481:=0
def tw6141708458832643298:=0
def tw11509543040963269816:=0
def tw6663729285248311761:=0
def tw15662930006499376260:=0
def tw7637327147061794453:=0
def tw8928951697770522515:=0
def tw9060697473025912693:=0
def tw17664019942982945927:=0
def tw7020720150913016823:=0
def tw7717005291292595319:=0
def tw11779510657646875355:=0
def tw1790370979979906585:=0
def tw6213850968514106326:=0
def tw14760871005084744072:=0
def tw14704553171865490250:=0
def tw5825155843483654829:=0
def tw4802565155429461415:=0
def tw5117344694108614642:=0
def tw7662925934876521960:=0
def tw10396427439962070196:=0
def tw302646468410063159:=0
def tw5613936311616051982:=0
def tw6045451841062406905:=0
def tw5249463958490369271:=0
def tw16508674780249980758:=0
def tw436605667089299419:=0
def tw11828374482588003837:=0
def tw9490873743332364150:=0
def tw4519161133208156097:=0
def tw6210864862560690769:=0
def tw10568970338013282923:=0
def tw13505563251477897397:=0
def tw15713754309241617775:=0
def tw11917269623276226423:=0
def tw908508890104864279:=0
end PySem.W.Fast
open PySem PySem.W PyProof.Rows
theorem PySem.Challenge.cw_pacehall_k57_whole_cells_meet_holds : PySem.Challenge.rw_pacehall_k57_whole_cells_meet.Holds := by
 w_on;o_law;k_head;(case hw=>w_witness2)
 k_fill
 refine PH.Kj (l:=PySem.Challenge.rw_pacehall_k57_whole_cells_meet) rfl rfl (λ w h Y=>PySem.W.kIn_of Y) ?F
 case F=>
  intro w mg fa h KX G hmg
  refine' PH.JP KX G hmg ?y0 ?y1 ?y2 ?y3 ?y4 ?y5 ?a0 ?F0 ?a1 ?F1 ?a2 ?F2 ?a3 ?F3 ?a4 ?F4 ?a5 ?F5 ?a6 ?F6 ?a7 ?F7 ?a8 ?F8 ?a9 ?F9 ?a10 ?F10 ?a11 ?F11 ?a12 ?F12 ?a13 ?F13 ?F14 ?F15 ?F16 ?F17 ?F18 ?F19 ?a20 ?F20 ?a21 ?F21 ?a22 ?F22 ?a23 ?F23 ?a24 ?F24 ?a25 ?F25 ?a26 ?F26 ?a27 ?F27 ?a28 ?F28 ?a29 ?l29 ?q29 ?c29 ?k29 ?a30 ?F30 ?a31 ?F31 ?a32 ?F32 ?a33 ?F33 ?a34 ?F34 ?a35 ?F35 ?a36 ?F36 ?a37 ?F37 ?a38 ?F38 ?a39 ?F39 ?a40 ?F40 ?a41 ?F41 ?a42 ?F42 ?a43 ?F43 ?a44 ?F44 ?a45 ?F45 ?a46 ?F46 ?a47 ?F47 ?a48 ?F48 ?a49 ?F49 ?a50 ?F50 ?a51 ?F51 ?a52 ?F52 ?a53 ?F53 ?a54 ?F54 ?a55 ?F55 ?a56 ?l56 ?c56 ?k56 ?pg_View ?hd_View ?po_View ?sa_View ?nf_View_axes ?nf_View_first ?nf_View_room ?fi_View___init__ ?fn_View___init__ ?mm_View ?ck_View ?fi_View_sizes ?fn_View_sizes ?fi_View_paces ?fn_View_paces ?fi_View_cell ?fn_View_cell ?fi_View_least ?fn_View_least ?fi_View_greatest ?fn_View_greatest ?w0 ?w1 ?w2 ?w3 ?z0 ?z1 ?z2 ?z3 ?z4 ?z5 ?z6 ?z7 ?z8 ?z9 ?z10 ?z11 ?z12 ?z13 ?z14 ?z15 ?z16
  (case y0|y1|y2|y3|y4|y5|fi_View___init__|fi_View_sizes|fi_View_paces|fi_View_cell|fi_View_least|fi_View_greatest=>first|k_is|k_exc|kts_exm|decide|rfl|decide +kernel|kernel_rfl)
  (case a0|a1|a2|a3|a4|a5|a6|a7|a8|a9|a10|a11=>first|k_is|k_exc|kts_exm|decide|rfl|decide +kernel|kernel_rfl)
  (case a12|a13|a20|a21|a22|a23|a24|a25|a26|a27|a28|a29=>first|k_is|k_exc|kts_exm|decide|rfl|decide +kernel|kernel_rfl)
  (case a30|a31|a32|a33|a34|a35|a36|a37|a38|a39|a40|a41=>first|k_is|k_exc|kts_exm|decide|rfl|decide +kernel|kernel_rfl)
  (case a42|a43|a44|a45|a46|a47|a48|a49|a50|a51|a52|a53=>first|k_is|k_exc|kts_exm|decide|rfl|decide +kernel|kernel_rfl)
  (case a54|a55|a56=>first|k_is|k_exc|kts_exm|decide|rfl|decide +kernel|kernel_rfl)
  (case F0|F1|F2|F3|F4|F5|F6|F7|F8|F9|F10|F11=>(refine' L2.Gv ?l ?c ?k;(case l|c|k=>first|k_is|k_exc|kts_exm|decide|rfl|decide +kernel|kernel_rfl)))
  (case F12|F13|F14|F15|F16|F17|F18|F19|F20|F21|F22|F23=>(refine' L2.Gv ?l ?c ?k;(case l|c|k=>first|k_is|k_exc|kts_exm|decide|rfl|decide +kernel|kernel_rfl)))
  (case F24|F25|F26|F27|F28|F30|F31|F32|F33|F34|F35|F36=>(refine' L2.Gv ?l ?c ?k;(case l|c|k=>first|k_is|k_exc|kts_exm|decide|rfl|decide +kernel|kernel_rfl)))
  (case F37|F38|F39|F40|F41|F42|F43|F44|F45|F46|F47|F48=>(refine' L2.Gv ?l ?c ?k;(case l|c|k=>first|k_is|k_exc|kts_exm|decide|rfl|decide +kernel|kernel_rfl)))
  (case F49|F50|F51|F52|F53|F54|F55=>(refine' L2.Gv ?l ?c ?k;(case l|c|k=>first|k_is|k_exc|kts_exm|decide|rfl|decide +kernel|kernel_rfl)))
  (case l29|q29|c29|k29|l56|c56|k56|pg_View|hd_View|po_View|sa_View|nf_View_axes=>first|k_is|k_exc|kts_exm|decide|rfl|decide +kernel|kernel_rfl)
  (case nf_View_first|nf_View_room|fn_View___init__|mm_View|ck_View|fn_View_sizes|fn_View_paces|fn_View_cell|fn_View_least|fn_View_greatest|w0|w1=>first|k_is|k_exc|kts_exm|decide|rfl|decide +kernel|kernel_rfl)
  (case w2|w3|z0|z1|z2|z3|z4|z5|z6|z7|z8|z9=>first|k_is|k_exc|kts_exm|decide|rfl|decide +kernel|kernel_rfl)
  (case z10|z11|z12|z13|z14|z15|z16=>first|k_is|k_exc|kts_exm|decide|rfl|decide +kernel|kernel_rfl)
#print axioms PySem.Challenge.cw_pacehall_k57_whole_cells_meet_holds