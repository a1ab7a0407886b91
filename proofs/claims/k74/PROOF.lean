import PyProof.Rows.All
import Wide.All
import OpenK.AllK
import Wide.FinOn
import Lean
import PyProof.EqAt
import PyProof.EqKinds
import PyProof.TupleCall
import PySem.Challenge.RW_pacehall_k74_orders_told
set_option Elab.async false
set_option linter.all false
set_option maxRecDepth 100000
set_option maxHeartbeats 0
open List (mem_cons_self mem_cons_of_mem mem_append_left getElem_inj mem_append_right length_cons map_cons length_map append_nil of_mem_zip length_take getElem?_append_right getElem?_append_left getElem?_map mem_of_getElem? length_append length_replicate size_toArray length_drop map_nil length_set any_cons replicate_succ foldl_cons length_singleton find?_cons getElem_mem getElem?_eq_getElem forIn_cons lookup_cons mem_cons not_mem_nil take_of_length_le take_length all_eq_true getElem_of_mem forIn_nil nodup_cons nodup_nil getElem?_eq_none length_zip length_range ext_getElem getD_eq_getElem?_getD map_append take_add_one mem_of_mem_take zipWith_cons_cons sum_cons foldl_append map_map all_map map_take pairwise_map)
namespace QL
def My:=@PySem.wpAny_bind
def QB:=@List.getElem?_eq_getElem
def QC:=@PySem.Heap.get?_push_of_some
def QD:=@List.getElem?_eq_some_iff
def QE:=@List.length_map
def QF:=@List.mem_singleton
def QG:=@List.mem_map
def QH:=@PySem.Heap.lt_size
def QI:=@PySem.wpAny_pure
def QJ:=@Option.map_eq_some_iff
def QK:=@Nat.le_refl
def QL:=@List.getElem?_map
def QM:=@List.mem_cons_of_mem
def QN:=@PySem.Heap.get?_push_size
def QO:=@Int.toNat_natCast
def QP:=@List.mem_cons_self
def QQ:=@Ne.symm
def QR:=@List.not_mem_nil
def QS:=@Bool.false_ne_true
def QT:=@PySem.PassesOwn.never
def QU:=@Int.eq_ofNat_of_zero_le
def QV:=@List.mem_of_getElem?
def QW:=@Int.mul_le_mul_of_nonneg_right
def QX:=@List.length_append
def QY:=@Nat.ne_of_lt
def QZ:=@List.mem_append_left
def Q0:=@Nat.lt_of_lt_of_le
def Q1:=@List.mem_cons
def Q2:=@Option.some.inj
def Q3:=@PySem.F.plainAttrs_list
def Q4:=@decide_eq_true
def Q5:=@if_neg
def Q6:=@List.mem_append
def Q7:=@List.size_toArray
def Q8:=@List.mem_append_right
def Q9:=@PySem.Heap.get?_update_other
def Ra:=@PySem.W.mg_of
def Rb:=@List.length_range
def Rc:=@if_pos
def Rf:=@List.length_take
def Rg:=@PySem.wpAny_seqItems
def Rh:=@List.getD_eq_getElem?_getD
def Ri:=@PySem.Heap.size_push
def Rj:=@List.mem_range
def Rk:=@PySem.wpAny_field
def Rl:=@PyProof.Rows.callWith_type1
def Rm:=@or_false
def Rn:=@List.getElem?_append_right
def Ro:=@decide_eq_false
def Rp:=@of_decide_eq_true
def Rq:=@List.map_map
def Rr:=@List.length_cons
def Rt:=@PySem.Heap.get?_update_self
def Ru:=@PySem.wpAny_setField_rec
def Rv:=@Int.zero_add
def Rw:=@List.getElem?_append_left
def Rx:=@Int.mul_le_mul_of_nonneg_left
def Ry:=@Nat.lt_irrefl
def Rz:=@List.take_length
def RA:=@List.map_append
def RB:=@List.getElem?_zip_eq_some
def RC:=@Int.toNat_of_nonneg
def RD:=@List.take_add_one
def RE:=@Nat.ne_of_gt
def RF:=@PySem.F.type_list_append
def RG:=@PySem.F.slot_list_append
def RH:=@Nat.le_add_right
def RI:=@PySem.wpAny_callSpecial?_slot
def RJ:=@Int.emod_lt_of_pos
def RK:=@List.mem_filter
def RL:=@List.nodup_append
def RM:=@List.mem_of_mem_take
def RN:=@List.length_singleton
def RO:=@PySem.W.mg_none_of
def RP:=@Nat.zero_le
def RQ:=@List.map_cons
def RS:=@congrArg
def RT:=@Nat.le_trans
def RU:=@Nat.lt_succ_self
def RV:=@List.eq_nil_of_length_eq_zero
def RW:=@Int.mul_comm
def RX:=@PySem.F.slot_zip_next
def RY:=@PySem.wpAny_letGo
def RZ:=@PySem.wpAny_truthy_bool
def R0:=@List.findIdx?_eq_some_iff_getElem
def R1:=@Int.mul_assoc
def R3:=@Int.emod_nonneg
def R4:=@PySem.wpAny_updateSeq
def R5:=@PySem.wpAny_holding
def R6:=@PySem.Around.under_plainId
def R7:=@List.length_replicate
def R8:=@List.getElem?_eq_none
def R9:=@List.zipWith_cons_cons
def Sa:=@List.take_of_length_le
def Sb:=@List.nodup_cons
def Sd:=@List.getElem_mem
def Se:=@PySem.wpAny_newObj_type
def Sf:=@Bool.false_eq_true
def Sg:=@PySem.wpAny_call_entry
def Sh:=@PySem.wpAny_tryCatch
def Si:=@PySem.wpAny_pyIter_list
def Sj:=@List.mem_flatMap
def Sk:=@PySem.F.slot_dict_get
def Sl:=@Int.mul_nonneg
def Sm:=@Int.mul_le_mul
def So:=@Int.add_mul
def Sq:=@List.foldl_cons
def Sr:=@List.foldl_append
def Ss:=@PySem.wpAny_onRaise
def Su:=@PySem.wpAny_Call_Name_kw
def Sv:=@PySem.plainId_quiet
def Sw:=@Int.emod_eq_of_lt
def Sx:=@Bool.eq_iff_iff
def Sy:=@List.length_zip
def Sz:=@PySem.codeAny_builtin
def SA:=@List.drop_of_length_le
def SD:=@List.length_drop
def SE:=@List.replicate_succ
def SF:=@List.of_mem_zip
def SG:=@List.length_set
def SH:=@List.getElem_of_mem
def SI:=@Nat.le_succ
def SJ:=@List.mem_iff_getElem?
def SK:=@Int.zero_mul
def SM:=@PySem.F.plain_min_loop
def SN:=@PySem.F.plain_max_loop
def SO:=@not_false_eq_true
def SQ:=@PySem.Calls.spliced_cons
def SR:=@List.mem_of_mem_drop
def SS:=@List.pairwise_map
def SU:=@List.lookup_cons
def SV:=@List.all_eq_true
def SW:=@PySem.wpAny_passesOwn
def SX:=@PySem.F.plain_extend_loop
def SY:=@Array.getElem?_eq_getElem
def S0:=@List.find?_cons
def S3:=@beq_eq_false_iff_ne
def S4:=@PySem.mem_of_lookup
def S5:=@PySem.F.args_zip_next_1
def S6:=@PySem.F.type_list_extend
def S7:=@PySem.F.slot_list_extend
def S8:=@Option.isSome_iff_exists
def S9:=@PySem.F.slot_tuple_iterator_next
def Ta:=@List.nodup_nil
def Tb:=@Option.map_some
def Tc:=@List.zip_cons_cons
def Td:=@List.getElem?_replicate
def Te:=@Int.ediv_ediv_of_nonneg
def Tf:=@PySem.F.entry_zip_next
def Tg:=@List.append_nil
def Th:=@not_or
def Ti:=@PySem.F.entry_dict_get
def Tj:=@PyProof.Rows.slot_tuple_getitem
def Tn:=@Nat.lt_succ_of_lt
def To:=@List.flatten_cons
def Tp:=@List.flatMap_cons
def Tq:=@if_false
def Tr:=@PySem.tupleKind_room_in1
def Ts:=@PySem.W.kia_one
def Tt:=@Nat.le_of_lt
def Tu:=@List.length_filter_le
def Tv:=@if_true
def Tw:=@Bool.and_eq_true
def Tz:=@List.getElem_inj
def TB:=@Nat.mul_le_mul_right
def TC:=@PySem.Calls.callWith_builtin
def TF:=@PySem.Calls.spliced_nil
def TH:=@Option.some_ne_none
def TJ:=@List.map_congr_left
def TK:=@List.flatMap_append
def TL:=@Int.natCast_mul
def TM:=@Int.mul_one
def TN:=@Array.length_toList
def TQ:=@PySem.wpAny_pyIter_zip
def TR:=@Nat.lt_trans
def TU:=@List.filter_append
def TV:=@PySem.wpAny_attempt
def TX:=@List.forIn_cons
def TY:=@PySem.F.type_list_reverse
def TZ:=@PySem.F.slot_list_reverse
def T1:=@PySem.wpAny_rule
def T2:=@List.ext_getElem
def T3:=@decide_eq_true_eq
def T4:=@PySem.F.args_tuple_add_2
def T5:=@List.sum_cons
def T6:=@PySem.F.entry_tuple_add
def T7:=@List.pairwise_singleton
def T8:=@PySem.codeAny_mono
def T9:=@beq_self_eq_true
def Ua:=@Nat.min_eq_right
def Ub:=@List.zipIdx_cons
def Uc:=@List.nodup_range
def Ud:=@List.map_fst_zip
def Ue:=@List.cons_append
def Ug:=@List.any_eq_true
def Uh:=@PySem.F.slot_tuple_add
def Ui:=@PySem.wpAny_mono
def Uj:=@Nat.not_lt_zero
def Uk:=@Nat.min_eq_left
def Ul:=@List.zipIdx_nil
def Um:=@List.length_nil
def Uo:=@Int.emod_add_mul_ediv
def Up:=@PySem.Paired.length
def Uq:=@PySem.Moved.trans
def Ur:=@List.getElem?_set_ne
def Us:=@List.take_succ
def Ut:=@List.drop_zero
def Uu:=@PySem.Heap.size_update
def Uv:=@Bool.false_and
def Uw:=@List.length_reverse
def Ux:=@List.getElem?_range
def Uy:=@List.filterMap_cons
def Uz:=@Int.one_mul
def UA:=@List.forIn_nil
def UB:=@PySem.wpAny_execs_nil
def UC:=@List.map_take
def UD:=@Option.toList_some
def UE:=@List.map_drop
def UG:=@List.getElem_range
def UH:=@List.getElem?_take
def UI:=@List.all_cons
def UJ:=@Bool.true_and
def UK:=@PySem.call_meets
def UL:=@PySem.Walks.list
def UM:=@PySem.wpAny_updateSeq_pair
def UN:=@beq_iff_eq
def UO:=@List.ext_getElem?
def UP:=@List.append_assoc
def UQ:=@PySem.Heap.get?_none_of_le
def UR:=@PySem.Calls.evalArgs_plain
def US:=@PySem.wpAny_comprehension_free
def UT:=@Nat.succ.inj
def UU:=@Nat.le_total
def UW:=@PySem.Moved.drop_new
def UX:=@Int.pow_succ
def UY:=@Option.getD_none
def UZ:=@Nat.le_of_not_lt
def U0:=@List.map_reverse
def U1:=@List.map_flatMap
def U2:=@List.flatMap_map
def U3:=@PySem.Heap.SameBut.update
def U4:=@List.dropLast_concat_getLast
def U5:=@PySem.wpAny_standAt
def U6:=@List.zip_append
def U7:=@List.cons.injEq
def U8:=@Int.mul_neg
def U9:=@Int.add_mul_emod_self_right
end QL
open QL
namespace L2
open PySem PySem.Spec PyProof.Rows
abbrev Key:=Sum Int Str
def vO:Key->Value->Bool
 | .inl k,v=>Value.isInt k v
 | .inr x,v=>Value.isStrOf x v
def Qs(w:World):Key->Int
 | .inl k=>hashInt k
 | .inr x=>hashStr w x
def bA:∀ {k:Key}{v:Value},vO k v=true->(∃ i t,k=Sum.inl i/\v=Value.int i t)\/(∃ x t,k=Sum.inr x/\v=Value.str x t)
 | .inl i,v,h=>by
  obtain⟨t,e⟩:=Value.isInt_shape (k:=i) (v:=v) h;exact .inl ⟨i,t,rfl,e⟩
 | .inr x,v,h=>by
  obtain⟨t,e⟩:=Value.isStrOf_shape (x:=x) (v:=v) h;exact .inr ⟨x,t,rfl,e⟩
def Bw(i:Int)(t:Tok):vO (.inl i) (.int i t)=true:=by simp [vO,Value.isInt]
def Bv(x:Str)(t:Tok):vO (.inr x) (.str x t)=true:=by simp [vO,Value.isStrOf]
def MH(a b:Int):decide ((Sum.inl a:Key)=Sum.inl b)=(a == b):=by
 by_cases e:a=b
 ·subst e;simp
 ·have h:¬ (Sum.inl a:Key)=Sum.inl b:=λ q=>e (Sum.inl.inj q);rw [Ro h];exact(S3.mpr e).symm
def MD(a b:Str):decide ((Sum.inr a:Key)=Sum.inr b)=decide (a=b):=by
 by_cases e:a=b
 ·subst e;simp
 ·have h:¬ (Sum.inr a:Key)=Sum.inr b:=λ q=>e (Sum.inr.inj q);rw [Ro h,Ro e]
def MG(a:Int)(b:Str):decide ((Sum.inl a:Key)=Sum.inr b)=false:=Ro (λ q=>nomatch q)
def MF(a:Str)(b:Int):decide ((Sum.inr a:Key)=Sum.inl b)=false:=Ro (λ q=>nomatch q)
def bI(prog:Program)(w:World):PySem.KeyKind prog w Key where
 is:=vO
 hash:=Qs w
 inj:=λ v a b ha hb=>by
  rcases bA ha with ⟨i,t,rfl,rfl⟩|⟨x,t,rfl,rfl⟩
  ·rcases bA hb with ⟨j,u,rfl,e⟩|⟨y,u,rfl,e⟩
   ·injection e with e1 _;rw [e1]
   ·exact nomatch e
  ·rcases bA hb with ⟨j,u,rfl,e⟩|⟨y,u,rfl,e⟩
   ·exact nomatch e
   ·injection e with e1 _;rw [e1]
 byValue:=λ k v h=>by
  rcases bA h with ⟨i,t,rfl,rfl⟩|⟨x,t,rfl,rfl⟩<;>rfl
 pyHash:=λ hv h=>by
  rcases bA hv with ⟨i,t,rfl,rfl⟩|⟨x,t,rfl,rfl⟩
  ·exact wpAny_pyHash_int h
  ·exact wpAny_pyHash_str h
 eqBool:=λ hu hv h=>by
  rcases bA hu with ⟨i,t,rfl,rfl⟩|⟨x,t,rfl,rfl⟩
  ·rcases bA hv with ⟨j,u,rfl,rfl⟩|⟨y,u,rfl,rfl⟩
   ·rw [MH] at h;exact wpAny_eqBool_int h
   ·rw [MG] at h;exact SeqAt.EqAt.int_str i t y u _ _ _ _ h
  ·rcases bA hv with ⟨j,u,rfl,rfl⟩|⟨y,u,rfl,rfl⟩
   ·rw [MF] at h;exact SeqAt.EqAt.str_int x t j u _ _ _ _ h
   ·rw [MD] at h;exact wpAny_eqBool_str h
 «strs»:=λ k x t v h=>by
  rcases bA h with ⟨i,u,rfl,e⟩|⟨y,u,rfl,e⟩
  ·exact nomatch e
  ·injection e with e1 _
   subst e1
   cases v<;>rfl
def tQ(prog:Program)(w:World)(i:Int)(t:Tok):(bI prog w).is (.inl i) (.int i t)=true:=Bw i t
def tP(prog:Program)(w:World)(x:Str)(t:Tok):(bI prog w).is (.inr x) (.str x t)=true:=Bv x t
inductive V where
 | non|bl (b:Bool)|int (i:Int)|str (x:Str)|byt (b:Array UInt8)|flt (b:UInt64)|ref (a:Addr)|ty (n:String)
 deriving DecidableEq
def bF:V->Value->Prop
 | .non,u=>u=Value.none
 | .bl b,u=>u=Value.bool b
 | .int i,u=>∃ t,u=Value.int i t
 | .str x,u=>∃ t,u=Value.str x t
 | .byt b,u=>∃ t,u=Value.bytes b t
 | .flt b,u=>∃ t,u=Value.float b t
 | .ref a,u=>u=Value.ref a
 | .ty n,u=>u=Value.type n
abbrev aY:List V->List Value->Prop:=Paired bF
def aY.length{xs:List V}{us:List Value}(r:aY xs us):xs.length=us.length:=Up r
def aY.get:∀ {xs:List V}{us:List Value}{i:Nat}{x:V},aY xs us->xs[i]? = some x->∃ u,us[i]? = some u/\bF x u
 | _,_,_,_,.nil,e=>by simp at e
 | _,_,0,_,.cons r _,e=>by simp at e;subst e;exact⟨_,rfl,r⟩
 | _,_,i+1,x,.cons _ t,e=>by
  obtain⟨u,h1,h2⟩:=aY.get (i:=i) (x:=x) t (by simpa using e);exact⟨u,by simpa using h1,h2⟩
def aY.set{x:V}{u:Value}(r:bF x u):∀ {xs:List V}{us:List Value}(i:Nat),aY xs us->aY (xs.set i x) (us.set i u)
 | _,_,_,.nil=>.nil
 | _,_,0,.cons _ t=>.cons r t
 | _,_,i+1,.cons q t=>.cons q (aY.set r i t)
def aY.append:∀ {xs ys:List V}{us ws:List Value},aY xs us->aY ys ws->aY (xs++ys) (us++ws)
 | _,_,_,_,.nil,s=>s
 | _,_,_,_,.cons r t,s=>.cons r (aY.append t s)
def aY.take:∀ {xs:List V}{us:List Value}(n:Nat),aY xs us->aY (xs.take n) (us.take n)
 | _,_,0,_=>.nil
 | _,_,_+1,.nil=>.nil
 | _,_,n+1,.cons r t=>.cons r (aY.take n t)
def aY.drop:∀ {xs:List V}{us:List Value}(n:Nat),aY xs us->aY (xs.drop n) (us.drop n)
 | _,_,0,r=>r
 | _,_,_+1,.nil=>.nil
 | _,_,n+1,.cons _ t=>aY.drop n t
def pN:Option V->Option Value->Prop
 | some v,some u=>bF v u
 | none,none=>True
 | _,_=>False
def KV{κ:Type}:List (κ × V)->List (κ × Value)->Prop:=Paired λ (p:κ × V) (q:κ × Value)=>p.1=q.1/\bF p.2 q.2
def kV:Key->V
 | .inl i=>.int i
 | .inr x=>.str x
inductive HO where
 | lst (xs:List V)
 | tup (xs:List V)
 | dK (kvs:List (Key × V))|dT (kvs:List (List Key × V))
 | set (S:Int->Bool) (n:Nat)
 | ins (C dx:Addr) (fs:List (Str × V))
 | own (x:Addr)
 | xd (fs:List (Str × V))
 | met (f x:Addr)
 | rng (lo hi:Int)
 | frz (o:Obj) (u:HO)
 | tbl (ps:Array Value)
 | ext (φ:Heap->Prop)
abbrev Hp:=Addr->Option HO
def upd(H:Hp)(a:Addr)(o:HO):Hp:=λ b=>if b=a then some o else H b
def ar{H:Hp}{a:Addr}{o:HO}:upd H a o a=some o:=by unfold upd;rw [if_pos rfl]
def ah{H:Hp}{a b:Addr}{o:HO}(h:b ≠ a):upd H a o b=H b:=by unfold upd;rw [if_neg h]
def GQ{H:Hp}{a:Addr}{o u:HO}:upd (upd H a o) a u=upd H a u:=by
 funext b;unfold upd;split<;>rfl
def Oj{H:Hp}{a b:Addr}{o u:HO}(h:H a=some o)(h':H b=some u)(d:o ≠ u):a ≠ b:=by
 intro e;subst e;rw [h] at h';exact d (Q2 h')
def cz{H:Hp}{a b:Addr}{o:HO}(h:H a=some o)(h':H b=none):a ≠ b:=by
 intro e;subst e;rw [h] at h';cases h'
section
variable (P:Program)(w:World)
def cF(H:Hp)(h:Heap)(a:Addr):HO->Prop
 | .lst xs=>xs.length<=sizeLine/\∃ (its:List Value) (n:Nat),aY xs its/\h.get? a=some { cls:=.type "list",data:=.seq its.toArray n }
 | .tup xs=>xs.length<=sizeLine/\∃ its:List Value,aY xs its/\IsTup h a its.toArray
 | .dK kvs=>kvs.length<=sizeLine/\(a == sysModules)=false/\∃ vs,KV kvs vs/\h.DictOf (bI P w) a vs
 | .dT kvs=>kvs.length<=sizeLine/\(a == sysModules)=false/\∃ xs:List (List Key × Addr × Value),
   Paired (λ (p:List Key × V) (q:List Key × Addr × Value)=>p.1=q.1/\H q.2.1=some (.tup (p.1.map kV))/\bF p.2 q.2.2) kvs xs /\
   ∃ o es ep,h.get? a=some o/\o.ExactDict/\o.data=.dict es ep/\es.toList=xs.map (entryOfKey (tupleKind (bI P w)))/\(xs.map (·.1)).Nodup
 | .set S n=>h.SetOf (intKind P w) a S n
 | .ins C dx fs=>H dx=some (.own a)/\fs.length<=1000/\dx ≠ a/\h.get? a=some (W.instObj C dx) /\
   ∃ mA,h.Ns1 dx mA/\(∀ f,pN (fs.lookup f) (mA f))/\PySem.Within mA (fs.map (·.1))
 | .own _=>∃ o,h.get? a=some o
 | .xd fs=>∃ mA,h.Ns1 a mA/\∀ f,pN (fs.lookup f) (mA f)
 | .rng lo hi=>∃ t u v,h.get? a=some { cls:=.type "range",data:=.fields #[.int lo t,.int hi u,.int 1 v] }
 | .frz o u=>h.get? a=some o/\cF H h a u
 | .tbl ps=>h.get? a=some { cls:=.none,data:=.fields ps }
 | .met f x=>h.get? a=some (W.methodObj (.ref f) (.ref x))
 | .ext φ=>φ h/\(∃ o,h.get? a=some o)/\∀ h1 h2:Heap,φ h1->(∀ o,h1.get? a=some o->h2.get? a=some o)->φ h2
def HOk(H:Hp)(h:Heap):Prop:=∀ a o,H a=some o->cF P w H h a o
end
section
variable {P:Program}{w:World}{H H':Hp}{h h':Heap}{a:Addr}{o:HO}
def cF.lt(x:cF P w H h a o):a < h.objs.size:=by
 cases o with
 | lst xs=>obtain⟨_,_,_,_,e⟩:=x;exact QH e
 | tup xs=>obtain⟨_,_,_,p⟩:=x;exact p.lt
 | dK kvs=>obtain⟨_,_,_,_,o,_,_,e,_⟩:=x;exact QH e
 | dT kvs=>obtain⟨_,_,_,_,o,_,_,e,_⟩:=x;exact QH e
 | set S n=>obtain⟨o,_,_,_,e,_⟩:=x;exact QH e
 | ins C dx fs=>obtain⟨_,_,_,e,_⟩:=x;exact QH e
 | own y=>obtain⟨_,e⟩:=x;exact QH e
 | xd fs=>obtain⟨_,⟨_,_,_,e,_⟩,_⟩:=x;exact QH e
 | rng lo hi=>obtain⟨_,_,_,e⟩:=x;exact QH e
 | frz ob u=>obtain⟨e,_⟩:=x;exact QH e
 | tbl ps=>exact QH (show h.get? a=some _ from x)
 | met f y=>exact QH (show h.get? a=some _ from x)
 | ext φ=>obtain⟨_,⟨_,e⟩,_⟩:=x;exact QH e
def Paired.mapP{α β:Type}{F G:α->β->Prop}:∀ {l₁:List α}{l₂:List β},Paired F l₁ l₂->(∀ a b,F a b->G a b)->Paired G l₁ l₂
 | _,_,.nil,_=>.nil
 | _,_,.cons r t,f=>.cons (f _ _ r) (Paired.mapP t f)
def cF.stay(x:cF P w H h a o)(k:∀ b u,(b=a\/H b=some (.own a))->h.get? b=some u->h'.get? b=some u)
  (ho:∀ b,H b=some (.own a)->H' b=some (.own a)) (ht:∀ b xs,H b=some (.tup xs)->H' b=some (.tup xs)):cF P w H' h' a o:=by
 induction o with
 | lst xs=>obtain⟨z,its,n,r,e⟩:=x;exact⟨z,its,n,r,k _ _ (.inl rfl) e⟩
 | tup xs=>obtain⟨z,its,r,ob,e,c⟩:=x;exact⟨z,its,r,ob,k _ _ (.inl rfl) e,c⟩
 | dK kvs=>obtain⟨z,y,vs,r,ob,es,ep,e,c⟩:=x;exact⟨z,y,vs,r,ob,es,ep,k _ _ (.inl rfl) e,c⟩
 | dT kvs=>
  obtain⟨z,y,xs,r,ob,es,ep,e,c⟩:=x;exact⟨z,y,xs,Paired.mapP r λ p q z=>⟨z.1,ht _ _ z.2.1,z.2.2⟩,ob,es,ep,k _ _ (.inl rfl) e,c⟩
 | set S n=>obtain⟨ob,es,ep,t,e,c⟩:=x;exact⟨ob,es,ep,t,k _ _ (.inl rfl) e,c⟩
 | ins C dx fs=>
  obtain⟨d,z,ne,e,mA,⟨od,es,ep,e2,c⟩,r⟩:=x;exact⟨ho _ d,z,ne,k _ _ (.inl rfl) e,mA,⟨od,es,ep,k _ _ (.inr d) e2,c⟩,r⟩
 | own y=>obtain⟨ob,e⟩:=x;exact⟨ob,k _ _ (.inl rfl) e⟩
 | xd fs=>obtain⟨mA,⟨od,es,ep,e,c⟩,r⟩:=x;exact⟨mA,⟨od,es,ep,k _ _ (.inl rfl) e,c⟩,r⟩
 | rng lo hi=>obtain⟨t,u,v,e⟩:=x;exact⟨t,u,v,k _ _ (.inl rfl) e⟩
 | frz ob u ih=>obtain⟨e,q⟩:=x;exact⟨k _ _ (.inl rfl) e,ih q⟩
 | tbl ps=>
  have e:h.get? a=some { cls:=.none,data:=.fields ps }:=x
  show h'.get? a=some { cls:=.none,data:=.fields ps }
  exact k a _ (.inl rfl) e
 | met f y=>
  have e:h.get? a=some (W.methodObj (.ref f) (.ref y)):=x
  show h'.get? a=some (W.methodObj (.ref f) (.ref y))
  exact k a _ (.inl rfl) e
 | ext φ=>obtain⟨p,⟨o,e⟩,st⟩:=x;exact⟨st _ _ p λ o q=>k _ _ (.inl rfl) q,⟨o,k _ _ (.inl rfl) e⟩,st⟩
def HOk.lt(x:HOk P w H h)(e:H a=some o):a < h.objs.size:=(x a o e).lt
def HOk.fresh(x:HOk P w H h)(e:h.objs.size<=a):H a=none:=by
 cases q:H a with
 | none=>rfl
 | some u=>exact absurd (Q0 (x.lt q) e) (Ry _)
def HOk.kept(x:HOk P w H h)(k:∀ b u,h.get? b=some u->h'.get? b=some u):HOk P w H h':=λ a o e=>
 (x a o e).stay (λ b u _ q=>k b u q) (λ _ q=>q) λ _ _ q=>q
def HOk.laid(x:HOk P w H h)(k:∀ b u,h.get? b=some u->h'.get? b=some u)(hp:h.objs.size<=a)(new:cF P w (upd H a o) h' a o):HOk P w (upd H a o) h':=λ b u e=>by
 have hn:=x.fresh hp
 by_cases hb:b=a
 ·subst hb;rw [ar] at e;cases e;exact new
 ·rw [ah hb] at e;exact(x b u e).stay (λ c v _ q=>k c v q) (λ c q=>by rw [ah (cz q hn)];exact q) λ c xs q=>by rw [ah (cz q hn)];exact q
end
def Rd(H:Hp)(a:Addr)(u:HO):Prop:=H a=some u\/∃ o,H a=some (.frz o u)
def Rd.ok{P:Program}{w:World}{H:Hp}{h:Heap}{a:Addr}{u:HO}(r:Rd H a u)(x:HOk P w H h):cF P w H h a u:=by
 rcases r with r|⟨o,r⟩
 ·exact x a u r
 ·obtain⟨_,q⟩:=x a _ r;exact q
def Mut:Option HO->Prop
 | some (.lst _)=>True
 | some (.dK _)=>True
 | some (.dT _)=>True
 | some (.set _ _)=>True
 | some (.ins _ _ _)=>True
 | some (.ext _)=>True
 | _=>False
section
variable {P:Program}{w:World}{H:Hp}{h h':Heap}{x e:Addr}{o':HO}
def HOk.write(ok:HOk P w H h)(mu:Mut (H x))(he:e=x\/H e=some (.own x))(k:∀ b u,b ≠ e->h.get? b=some u->h'.get? b=some u)(a3:∃ u,h'.get? e=some u)
  (new:cF P w (upd H x o') h' x o'):HOk P w (upd H x o') h':=λ b u q=>by
 have aS:∀ c y,H c=some (.own y)->c ≠ x:=λ c y r z=>by subst z;rw [r] at mu;exact mu
 have aX:∀ c xs,H c=some (.tup xs)->c ≠ x:=λ c xs r z=>by subst z;rw [r] at mu;exact mu
 by_cases hb:b=x
 ·subst hb;rw [ar] at q;cases q;exact new
 ·rw [ah hb] at q
  by_cases hbe:b=e
  ·have q':H b=some (.own x):=by
    rcases he with z|z
    ·exact absurd (hbe.trans z) hb
    ·rw [hbe];exact z
   rw [q] at q';cases q';obtain⟨v,hv⟩:=a3;exact⟨v,by rw [hbe];exact hv⟩
  ·refine(ok b u q).stay (λ c v hc r=>k c v ?_ r) (λ c r=>by rw [ah (aS c b r)];exact r) λ c xs r=>by rw [ah (aX c xs r)];exact r
   rcases hc with rfl|hc
   ·exact hbe
   ·rintro rfl
    rcases he with z|z
    ·exact aS c b hc z
    ·rw [hc] at z;cases z;exact hb rfl
end
structure Un(fs ex:List Addr)(H H':Hp)(h h':Heap):Prop where
 keep:∀ b o,h.get? b=some o->H b=none->b ∉ fs->b ∉ ex->h'.get? b=some o
 slot:∀ b o,h.get? b=some o->H b=none->b∈fs->b ∉ ex->∃ sl,h'.get? b=some { o with slots:=sl }
 free:∀ b o,h.get? b=some o->H b=none->b ∉ ex->H' b=none
 there:∀ b o,h.get? b=some o->b ∉ ex->∃ o',h'.get? b=some o'
 tups:∀ b xs,H b=some (.tup xs)->H' b=some (.tup xs)
 frzs:∀ b o u,H b=some (.frz o u)->H' b=some (.frz o u)
 tbls:∀ b ps,H b=some (.tbl ps)->∃ more,H' b=some (.tbl (ps++more))
section
variable {fs fs' ex ex':List Addr}{H H1 H2:Hp}{h h1 h2 h':Heap}{a x e:Addr}{o:HO}
def Un.any(u:Un fs ex H H1 h h1){b:Addr}{ob:Obj}(q:h.get? b=some ob)(n:H b=none)(hx:b ∉ ex):∃ sl,h1.get? b=some { ob with slots:=sl }:=by
 by_cases hb:b∈fs
 ·exact u.slot b ob q n hb hx
 ·exact⟨ob.slots,u.keep b ob q n hb hx⟩
def Un.trans(a:Un fs ex H H1 h h1)(b:Un fs ex H1 H2 h1 h2):Un fs ex H H2 h h2 where
 keep:=λ c ob q n hc hx=>b.keep c ob (a.keep c ob q n hc hx) (a.free c ob q n hx) hc hx
 slot:=λ c ob q n hc hx=>by
  obtain⟨sl,e1⟩:=a.slot c ob q n hc hx;obtain⟨aS,e2⟩:=b.slot c _ e1 (a.free c ob q n hx) hc hx;exact⟨aS,e2⟩
 free:=λ c ob q n hx=>by
  obtain⟨o',e1⟩:=a.there c ob q hx;exact b.free c o' e1 (a.free c ob q n hx) hx
 there:=λ c ob q hx=>by
  obtain⟨o',e1⟩:=a.there c ob q hx;exact b.there c o' e1 hx
 tups:=λ c xs q=>b.tups c xs (a.tups c xs q)
 frzs:=λ c ob xs q=>b.frzs c ob xs (a.frzs c ob xs q)
 tbls:=λ c ps q=>by
  obtain⟨m1,e1⟩:=a.tbls c ps q;obtain⟨m2,e2⟩:=b.tbls c _ e1;exact⟨m1++m2,by rw [e2,Array.append_assoc]⟩
def Un.kept(k:∀ b u,h.get? b=some u->h'.get? b=some u):Un fs ex H H h h':=
 ⟨λ b ob q _ _ _=>k b ob q,λ b ob q _ _ _=>⟨ob.slots,k b ob q⟩,λ _ _ _ n _=>n,λ b ob q _=>⟨ob,k b ob q⟩,λ _ _ q=>q,λ _ _ _ q=>q,λ _ ps q=>⟨#[],by rw [q];simp⟩⟩
def Un.refl:Un fs ex H H h h:=Un.kept λ _ _ q=>q
def Un.laid(k:∀ b u,h.get? b=some u->h'.get? b=some u)(hp:h.objs.size<=a)(hn:H a=none):Un fs ex H (upd H a o) h h' where
 keep:=λ b u q _ _ _=>k b u q
 slot:=λ b u q _ _ _=>⟨u.slots,k b u q⟩
 free:=λ b u q n _=>by rw [ah (QY (Q0 (QH q) hp))];exact n
 there:=λ b u q _=>⟨u,k b u q⟩
 tups:=λ b xs q=>by rw [ah (cz q hn)];exact q
 frzs:=λ b u xs q=>by rw [ah (cz q hn)];exact q
 tbls:=λ b ps q=>⟨#[],by rw [ah (cz q hn),q];simp⟩
def Un.write(mu:Mut (H x))(he:e=x\/H e=some (.own x))(k:∀ b u,b ≠ e->h.get? b=some u->h'.get? b=some u)(aS:∃ u,h'.get? e=some u):Un fs ex H (upd H x o) h h':=by
 have hx:∀ b,H b=none->b ≠ x:=λ b n z=>by subst z;rw [n] at mu;exact mu
 have hb:∀ b,H b=none->b ≠ e:=λ b n z=>by
  subst z
  rcases he with r|r
  ·exact hx b n r
  ·rw [n] at r;cases r
 have hm:∀ b u,H b=some u->¬ Mut (some u)->b ≠ x:=λ b u q nm z=>by subst z;rw [q] at mu;exact nm mu
 refine⟨λ b u q n _ _=>k b u (hb b n) q,λ b u q n _ _=>⟨u.slots,k b u (hb b n) q⟩,λ b u q n _=>by rw [ah (hx b n)];exact n,λ b u q _=>?_,
  λ b xs q=>by rw [ah (hm b _ q λ z=>z)];exact q,λ b u xs q=>by rw [ah (hm b _ q λ z=>z)];exact q,λ b ps q=>⟨#[],by rw [ah (hm b _ q λ z=>z),q];simp⟩⟩
 by_cases hbe:b=e
 ·subst hbe;exact aS
 ·exact⟨u,k b u hbe q⟩
end
def trk(h:Heap)(H:Hp):List Addr:=(List.range h.objs.size).filter λ a=>(H a).isSome
def B9(h:Heap)(H:Hp):Heap:=W.hideAll h (trk h H)
def BB(h:Heap)(H:Hp):(B9 h H).objs.size=h.objs.size:=W.hideAll_size _ _
def Eu{h:Heap}{H:Hp}{b:Addr}{o:Obj}(e:h.get? b=some o)(n:H b=none):(B9 h H).get? b=some o:=
 W.hideAll_get _ e λ hm=>by
  have q:(H b).isSome=true:=(RK.mp hm).2;rw [n] at q;simp at q
def HD{h:Heap}{H:Hp}{b:Addr}{o:Obj}(e:(B9 h H).get? b=some o):h.get? b=some o/\H b=none:=by
 have e':h.get? b=some o:=W.of_hideAll (trk h H) e;refine⟨e',?_⟩
 cases q:H b with
 | none=>rfl
 | some x=>
  have hm:b∈trk h H:=RK.mpr ⟨Rj.mpr (QH e'),by simp [q]⟩;have z:(B9 h H).get? b=none:=W.hideAll_none (trk h H) hm;rw [z] at e;cases e
def JJ(g h:Heap)(L:Addr):List (Addr × Obj):=(List.range h.objs.size).filterMap λ a=>if a=L\/(g.get? a).isSome=true then none else (h.get? a).map λ o=>(a,o)
def vL(g h:Heap)(L d:Addr):List (Addr × Obj):=(JJ g h L).filter λ p=>decide (p.1 ≠ d)
structure Mod(K:W.Frag)(mg:Str->Option Value)(base:Heap):Prop where
 kin:K.In base
 glob:base.Ns mainGlobals mg
 blt:∃ mb,base.Ns builtinsNs mb/\∀ x:Str,x ≠ "__name__" → mb x=bootBuiltins x
 nolimit:base.NoLimit
structure Cx where
 prog:Program
 w:World
 K:W.Frag
 mg:Str->Option Value
 base:Heap
 A:Around
 N:List Str
 s₀:Shared
 H₀:Hp
 env:Env
 outer:List Env
 stack:List Env
 ex:List Addr
 fn:Str->Bool
 calm:Bool
 pn:List (Addr × Obj)
 xe:Value->Shared->Prop
def frs(l:List Env):List Addr:=l.filterMap (·.frame)
abbrev Cx.fs(X:Cx):List Addr:=frs X.outer
def Vis(sc:Scope)(x:Str):Prop:=sc.names.lookup x=some .local\/sc.names.lookup x=some .cell\/sc.names.lookup x=some .free
def Loc(sc:Scope)(x:Str):Prop:=sc.names.lookup x=some .local\/sc.names.lookup x=some .cell
def Qy(env:Env)(h:Heap)(m:Str->Option Value)(x:Str)(u:Value):Prop:=
 (env.kindOf x=some .local/\m x=some u)\/((env.kindOf x=some .cell\/env.kindOf x=some .free)/\∃ c,env.cells.lookup x=some c/\h.IsCell c (some u))
structure Cx.Ok(X:Cx):Prop where
 mod:Mod X.K X.mg X.base
 kind:X.env.scope.kind=.function
 glob:X.env.globals=mainGlobals
 blt:X.env.builtins=builtinsNs
 above:X.s₀.heap.objs.size<=X.env.locals
 inj:∀ x y c,X.env.cells.lookup x=some c->X.env.cells.lookup y=some c->x=y
 has:∀ x,(X.env.kindOf x=some .cell\/X.env.kindOf x=some .free)->∃ c,X.env.cells.lookup x=some c
 cab:∀ x c,X.fn x=true->X.env.cells.lookup x=some c->X.s₀.heap.objs.size<=c
 hd:X.calm=true->X.A.handled=none
 frames:X.A.frames=some X.stack
 stk:X.stack=X.outer\/(X.stack=X.env::X.outer/\X.env.frame=some X.env.locals)
 exf:∀ b∈X.ex,b ≠ X.env.locals/\∀ x c,X.env.cells.lookup x=some c->c ≠ b
 bs:∀ b o,X.base.get? b=some o->X.s₀.heap.get? b=some o/\X.H₀ b=none
 bsz:X.base.objs.size<=X.s₀.heap.objs.size
 noex:∀ b o,X.base.get? b=some o->b ∉ X.ex
 exfs:∀ b∈X.ex,b ∉ X.fs
 funs:X.s₀.heap.FunFrames X.base X.outer
 frf:∀ b∈X.fs,X.H₀ b=none
structure Inv(X:Cx)(pins:List (Addr × Obj))(σ:List (Option V))(H:Hp)(s:Shared):Prop where
 ok:X.Ok
 os:s.os=X.s₀.os
 bare:AllBare s.gens
 base:Un X.fs X.ex X.H₀ H X.s₀.heap s.heap
 loc:∃ m,s.heap.Ns X.env.locals m/\∀ (i:Nat) (x:Str) (v:V),X.N[i]? = some x->σ[i]? = some (some v)->Vis X.env.scope x->∃ u,bF v u/\Qy X.env s.heap m x u
 cell:∀ x c,X.env.cells.lookup x=some c->∃ v,s.heap.IsCell c v
 free:H X.env.locals=none
 freeC:∀ x c,X.env.cells.lookup x=some c->H c=none
 pin:∀ p∈X.pn++pins,s.heap.get? p.1=some p.2/\H p.1=none/\p.1 ≠ X.env.locals/\p.1 ∉ X.fs/\∀ v,p.2.data ≠ .cell v
 hok:HOk X.prog X.w H s.heap
 len:σ.length=X.N.length
section
variable {X:Cx}{pins:List (Addr × Obj)}{σ:List (Option V)}{H H':Hp}{s:Shared}{h':Heap}
def Cx.Ok.nofr(ok:X.Ok){b:Addr}{o:Obj}(e:X.base.get? b=some o):b ∉ X.fs:=λ hb=>by
 have:=(ok.funs.mem hb).1;rw [e] at this;cases this
def Inv.bs(I:Inv X pins σ H s):∀ b o,X.base.get? b=some o->s.heap.get? b=some o/\H b=none:=λ b o e=>
 ⟨I.base.keep b o (I.ok.bs b o e).1 (I.ok.bs b o e).2 (I.ok.nofr e) (I.ok.noex b o e),I.base.free b o (I.ok.bs b o e).1 (I.ok.bs b o e).2 (I.ok.noex b o e)⟩
def Inv.bk(I:Inv X pins σ H s):∀ b o,X.base.get? b=some o->s.heap.get? b=some o:=λ b o e=>(I.bs b o e).1
def Inv.mod(I:Inv X pins σ H s):Mod X.K X.mg X.base:=I.ok.mod
def Inv.kIn(I:Inv X pins σ H s):X.K.In s.heap:=I.ok.mod.kin.keeps I.bk
def Inv.lt(I:Inv X pins σ H s):X.env.locals < s.heap.objs.size:=let ⟨_,hn,_⟩:=I.loc;hn.lt
def Inv.sz(I:Inv X pins σ H s):X.s₀.heap.objs.size<=s.heap.objs.size:=RT I.ok.above (Tt I.lt)
def Inv.nofs(I:Inv X pins σ H s){a:Addr}(h:s.heap.objs.size<=a):a ∉ X.fs:=λ hb=>by
 obtain⟨_,o,ho,_⟩:=I.ok.funs.mem hb;exact absurd (Q0 (QH ho) (RT I.sz h)) (Ry _)
def Inv.cne(I:Inv X pins σ H s):∀ x c,X.env.cells.lookup x=some c->c ≠ X.env.locals:=λ x c e z=>by
 obtain⟨v,o,ho,hd⟩:=I.cell x c e;obtain⟨m,⟨o',es,ep,aS,aX,_⟩,_⟩:=I.loc;rw [z,aS] at ho;cases ho;rw [aX] at hd;cases hd
def Inv.funs(I:Inv X pins σ H s):s.heap.FunFrames X.base X.outer:=by
 have all:∀ (l:List Env),(∀ b∈frs l,b∈X.fs)->X.s₀.heap.FunFrames X.base l->s.heap.FunFrames X.base l:=by
  intro l
  induction l with
  | nil=>intro _ _;trivial
  | cons env r ih=>
   intro hs hl;obtain⟨hk,⟨L,o,hf,hn,ho,hd⟩,hr⟩:=hl;have hL:L∈X.fs:=hs L (by unfold frs;rw [List.filterMap_cons,hf];exact mem_cons_self);obtain⟨sl,e⟩:=I.base.slot L o ho (I.ok.frf L hL) hL λ z=>I.ok.exfs L z hL;exact⟨hk,⟨L,_,hf,hn,e,hd⟩,ih (λ b hb=>hs b (by unfold frs;rw [List.filterMap_cons,hf];exact mem_cons_of_mem _ hb)) hr⟩
 exact all X.outer (λ _ hb=>hb) I.ok.funs
def Inv.stack(I:Inv X pins σ H s):s.heap.FunFrames X.base X.stack:=by
 rcases I.ok.stk with e|⟨e,hf⟩
 ·rw [e];exact I.funs
 ·rw [e];obtain⟨m,hn,_⟩:=I.loc;refine .cons (by rw [I.ok.kind];decide) hf hn ?_ I.funs;exact UQ (RT I.ok.bsz I.ok.above)
def Inv.stkSub(I:Inv X pins σ H s):∀ b∈frs X.stack,b∈X.env.locals::X.fs:=λ b hb=>by
 rcases I.ok.stk with e|⟨e,hf⟩
 ·rw [e] at hb;exact QM _ hb
 ·rw [e] at hb;unfold frs at hb;rw [List.filterMap_cons,hf] at hb;exact hb
def Inv.stkFree(I:Inv X pins σ H s):∀ b∈frs X.stack,H b=none:=λ b hb=>by
 rcases Q1.mp (I.stkSub b hb) with e|hb
 ·rw [e];exact I.free
 ·obtain⟨_,o,ho,_⟩:=I.ok.funs.mem hb;exact I.base.free b o ho (I.ok.frf b hb) λ z=>I.ok.exfs b z hb
def Inv.step{g':Array GenState}{t':Nat}{d':Drawn}{ch:List Addr}(I:Inv X pins σ H s)
  (aS:∀ b∈ch,(b∈X.ex\/X.s₀.heap.objs.size<=b)/\b ≠ X.env.locals/\(∀ x c,X.env.cells.lookup x=some c->c ≠ b)/\∀ p∈X.pn++pins,p.1 ≠ b)
  (keep:∀ b o,b ≠ X.env.locals->b ∉ X.fs->b ∉ ch->s.heap.get? b=some o->H b=none->h'.get? b=some o)
  (slot:∀ b o,b ≠ X.env.locals->b∈X.fs->b ∉ ch->s.heap.get? b=some o->H b=none->∃ sl,h'.get? b=some { o with slots:=sl }) (free:∀ b o,b ∉ ch->s.heap.get? b=some o->H b=none->H' b=none)
  (there:∀ b o,b ∉ ch->s.heap.get? b=some o->∃ o',h'.get? b=some o')
  (tups:∀ b xs,H b=some (.tup xs)->H' b=some (.tup xs)) (frzs:∀ b o u,H b=some (.frz o u)->H' b=some (.frz o u)) (tbls:∀ b ps,H b=some (.tbl ps)->∃ more,H' b=some (.tbl (ps++more)))
  (ns:∀ m,s.heap.Ns X.env.locals m->h'.Ns X.env.locals m) (hok:HOk X.prog X.w H' h') (hg:AllBare g') :
  Inv X pins σ H' { s with heap:=h',gens:=g',drawn:=d',toks:=t' }:=by
 have a4:∀ b o,X.s₀.heap.get? b=some o->b ≠ X.env.locals:=λ b o e=>QY (Q0 (QH e) I.ok.above)
 have a3:∀ b o,X.s₀.heap.get? b=some o->b ∉ X.ex->b ∉ ch:=λ b o e hx hb=>by
  rcases (aS b hb).1 with z|z
  ·exact hx z
  ·exact absurd (Q0 (QH e) z) (Ry _)
 have cellK:∀ x c,X.env.cells.lookup x=some c->∀ v,s.heap.IsCell c v->h'.IsCell c v:=λ x c e v ⟨o,ho,hd⟩=>by
  have aX:c ∉ ch:=λ z=>(aS c z).2.2.1 x c e rfl
  by_cases hc:c∈X.fs
  ·obtain⟨sl,q⟩:=slot c o (I.cne x c e) hc aX ho (I.freeC x c e);exact⟨_,q,hd⟩
  ·exact⟨o,keep c o (I.cne x c e) hc aX ho (I.freeC x c e),hd⟩
 refine⟨I.ok,I.os,hg,⟨λ b o e n hb hx=>?_,λ b o e n hb hx=>?_,λ b o e n hx=>?_,λ b o e hx=>?_,λ b xs e=>tups b xs (I.base.tups b xs e),λ b o xs e=>frzs b o xs (I.base.frzs b o xs e),λ b ps e=>?_⟩,?_,λ x c e=>?_,?_,λ x c e=>?_,λ p hp=>?_,hok,I.len⟩
 ·exact keep b o (a4 b o e) hb (a3 b o e hx) (I.base.keep b o e n hb hx) (I.base.free b o e n hx)
 ·obtain⟨sl,e1⟩:=I.base.slot b o e n hb hx;obtain⟨a5,e2⟩:=slot b _ (a4 b o e) hb (a3 b o e hx) e1 (I.base.free b o e n hx);exact⟨a5,e2⟩
 ·obtain⟨o',e1⟩:=I.base.there b o e hx;exact free b o' (a3 b o e hx) e1 (I.base.free b o e n hx)
 ·obtain⟨o',e1⟩:=I.base.there b o e hx;exact there b o' (a3 b o e hx) e1
 ·obtain⟨m1,e1⟩:=I.base.tbls b ps e;obtain⟨m2,e2⟩:=tbls b _ e1;exact⟨m1++m2,by rw [e2,Array.append_assoc]⟩
 ·obtain⟨m,hn,hl⟩:=I.loc;refine⟨m,ns m hn,λ i x v e1 e2 e3=>?_⟩;obtain⟨u,r,l⟩:=hl i x v e1 e2 e3;refine⟨u,r,?_⟩
  rcases l with l|⟨k,c,e,z⟩
  ·exact .inl l
  ·exact .inr ⟨k,c,e,cellK x c e _ z⟩
 ·obtain⟨v,z⟩:=I.cell x c e;exact⟨v,cellK x c e v z⟩
 ·obtain⟨m,⟨o,_,_,ho,_⟩,_⟩:=I.loc;exact free _ o (λ z=>(aS _ z).2.1 rfl) ho I.free
 ·obtain⟨v,o,ho,hd⟩:=I.cell x c e;exact free c o (λ z=>(aS c z).2.2.1 x c e rfl) ho (I.freeC x c e)
 ·obtain⟨e,n,ne,nf,d⟩:=I.pin p hp;have aX:p.1 ∉ ch:=λ z=>(aS p.1 z).2.2.2 p hp rfl;exact⟨keep p.1 p.2 ne nf aX e n,free p.1 p.2 aX e n,ne,nf,d⟩
def Inv.un{t':Nat}(I:Inv X pins σ H s)(u:Un X.fs [] H H' s.heap h')(hok:HOk X.prog X.w H' h'):Inv X pins σ H' { s with heap:=h',toks:=t' }:=by
 obtain⟨m,⟨o,es,ep,ho,r⟩,_⟩:=id I.loc;obtain⟨sl,hL⟩:=u.any ho I.free (by simp)
 exact I.step (g':=s.gens) (d':=s.drawn) (ch:=[]) (λ _ z=>nomatch z) (λ b o _ hb _ e n=>u.keep b o e n hb (by simp)) (λ b o _ hb _ e n=>u.slot b o e n hb (by simp)) (λ b o _ e n=>u.free b o e n (by simp)) (λ b o _ e=>u.there b o e (by simp)) u.tups u.frzs u.tbls (λ m' hm=>by
  obtain⟨o',aX,a3,aS,r'⟩:=hm;rw [ho] at aS;cases aS;exact⟨_,aX,a3,hL,r'⟩) hok I.bare
def Inv.call{g':Array GenState}{t':Nat}{d':Drawn}{ch:List Addr}(I:Inv X pins σ H s)(u:Un (frs X.stack) ch H H' s.heap h')(hok:HOk X.prog X.w H' h')(hg:AllBare g')
  (aS:∀ b∈ch,(b∈X.ex\/X.s₀.heap.objs.size<=b)/\b ≠ X.env.locals/\(∀ x c,X.env.cells.lookup x=some c->c ≠ b)/\∀ p∈X.pn++pins,p.1 ≠ b) :
  Inv X pins σ H' { s with heap:=h',gens:=g',drawn:=d',toks:=t' }:=by
 obtain⟨m,⟨o,es,ep,ho,r⟩,_⟩:=id I.loc;obtain⟨sl,hL⟩:=u.any ho I.free λ z=>(aS _ z).2.1 rfl
 exact I.step (ch:=ch) aS (λ b o hL hb hc e n=>u.keep b o e n (λ z=>(Q1.mp (I.stkSub b z)).elim hL hb) hc) (λ b o _ _ hc e n=>u.any e n hc) (λ b o hc e n=>u.free b o e n hc) (λ b o hc e=>u.there b o e hc) u.tups u.frzs u.tbls (λ m' hm=>by
  obtain⟨o',a3,a4,aX,r'⟩:=hm;rw [ho] at aX;cases aX;exact⟨_,a3,a4,hL,r'⟩) hok hg
def Inv.turned{t':Nat}{it:Addr}(I:Inv X pins σ H s)(k:∀ b o,b ≠ it->s.heap.get? b=some o->h'.get? b=some o)(hn:H it=none)(hL:it ≠ X.env.locals)
  (h1:it∈X.ex\/X.s₀.heap.objs.size<=it) (h2:∀ x c,X.env.cells.lookup x=some c->c ≠ it) (h3:∀ p∈X.pn++pins,p.1 ≠ it):Inv X pins σ H { s with heap:=h',toks:=t' }:=by
 have aS:∀ b u,H b=some u->b ≠ it:=λ b u e z=>by rw [z,hn] at e;cases e
 refine I.step (g':=s.gens) (d':=s.drawn) (ch:=[it]) (λ b hb=>?_) (λ b o _ _ hc e _=>k b o (λ z=>hc (by simp [z])) e) (λ b o _ _ hc e _=>⟨o.slots,k b o (λ z=>hc (by simp [z])) e⟩) (λ _ _ _ _ n=>n)
  (λ b o hc e=>⟨o,k b o (λ z=>hc (by simp [z])) e⟩) (λ _ _ e=>e) (λ _ _ _ e=>e) (λ b ps e=>⟨#[],by rw [e];simp⟩) (λ m hm=>?_) (λ b u e=>?_) I.bare
 ·have e:b=it:=by simpa using hb
  subst e;exact⟨h1,hL,h2,h3⟩
 ·obtain⟨o,es,ep,ho,r⟩:=hm;exact⟨o,es,ep,k _ o (QQ hL) ho,r⟩
 ·refine(I.hok b u e).stay (λ c v hc q=>k c v ?_ q) (λ _ q=>q) λ _ _ q=>q
  rcases hc with z|z
  ·rw [z];exact aS b u e
  ·exact aS c _ z
def Inv.tok(I:Inv X pins σ H s)(t:Nat):Inv X pins σ H { s with toks:=t }:=I.un (h':=s.heap) (t':=t) Un.refl I.hok
def Inv.kept{t':Nat}(I:Inv X pins σ H s)(k:∀ b u,s.heap.get? b=some u->h'.get? b=some u):Inv X pins σ H { s with heap:=h',toks:=t' }:=I.un (Un.kept k) (I.hok.kept k)
def Inv.laid{a:Addr}{o:HO}{t':Nat}(I:Inv X pins σ H s)(k:∀ b u,s.heap.get? b=some u->h'.get? b=some u)(hp:s.heap.objs.size<=a)(new:cF X.prog X.w (upd H a o) h' a o) :
  Inv X pins σ (upd H a o) { s with heap:=h',toks:=t' }:=I.un (Un.laid k hp (I.hok.fresh hp)) (I.hok.laid k hp new)
def Inv.write{x e:Addr}{o:HO}{t':Nat}(I:Inv X pins σ H s)(mu:Mut (H x))(he:e=x\/H e=some (.own x))(k:∀ b u,b ≠ e->s.heap.get? b=some u->h'.get? b=some u)(aS:∃ u,h'.get? e=some u)
  (new:cF X.prog X.w (upd H x o) h' x o):Inv X pins σ (upd H x o) { s with heap:=h',toks:=t' }:=I.un (Un.write mu he k aS) (I.hok.write mu he k aS new)
def Inv.weak{σ':List (Option V)}(I:Inv X pins σ H s)(hl:σ'.length=σ.length)(w:∀ (i:Nat) v,σ'[i]? = some (some v)->σ[i]? = some (some v)):Inv X pins σ' H s:=
 ⟨I.ok,I.os,I.bare,I.base,let ⟨m,hn,hl'⟩:=I.loc;⟨m,hn,λ i x v e1 e2 e3=>hl' i x v e1 (w i v e2) e3⟩,I.cell,I.free,I.freeC,I.pin,I.hok,hl.trans I.len⟩
def Inv.pins_of{aS:List (Addr × Obj)}(I:Inv X pins σ H s)(h:∀ p∈aS,s.heap.get? p.1=some p.2/\H p.1=none/\p.1 ≠ X.env.locals/\p.1 ∉ X.fs/\∀ v,p.2.data ≠ .cell v):Inv X aS σ H s:=
 ⟨I.ok,I.os,I.bare,I.base,I.loc,I.cell,I.free,I.freeC,λ p hp=>(Q6.mp hp).elim (λ z=>I.pin p (QZ _ z)) (h p),I.hok,I.len⟩
def uV{N:List Str}(hN:N.Nodup){i j:Nat}{x:Str}(a:N[i]? = some x)(b:N[j]? = some x):i=j:=by
 obtain⟨h1,e1⟩:=QD.mp a;obtain⟨h2,e2⟩:=QD.mp b;exact(Tz hN).mp (e1.trans e2.symm)
def qh{M:Model}{A:Around}{E:Value->Shared->Prop}{i:Nat}{x:Str}{v:V}{u:Value}{Q:Unit->Shared->Prop}(I:Inv X pins σ H s)(hN:X.N.Nodup)(hi:X.N[i]? = some x)(hx:Loc X.env.scope x)(r:bF v u)
  (h:∀ s',Inv X pins (σ.set i (some v)) H s'->(∃ a,Heap.SameBut a s.heap s'.heap/\(a=X.env.locals\/X.env.cells.lookup x=some a))->Q () s') (hf:X.fn x=true\/X.env.scope.names.lookup x=some .local:=by first|exact .inl rfl|exact .inr rfl|assumption):wpAny M A (storeName X.env x u) Q E s:=by
 obtain⟨m,hn,hl⟩:=id I.loc;have a3:(X.env.scope.kind == .class || (X.env.scope.kind == .module && X.env.locals != X.env.globals))=false:=by rw [I.ok.kind];rfl
 have a4:i < σ.length:=by rw [I.len];exact(QD.mp hi).1
 have cne:=I.cne
 have tracked:∀ {a:Addr} {h':Heap},(∃ o,s.heap.get? a=some o/\H a=none)->Heap.SameBut a s.heap h'->HOk X.prog X.w H h':=λ {a h'} ha hs b ob e=>by
  obtain⟨_,_,aS⟩:=ha;refine(I.hok b ob e).stay (λ c w' hc q=>(hs.2 c ?_).trans q) (λ _ q=>q) λ _ _ q=>q;rintro rfl
  rcases hc with rfl|hc
  ·rw [aS] at e;cases e
  ·rw [aS] at hc;cases hc
 rcases hx with hk|hk
 ·refine wpAny_storeName_local hk hn (λ h' a8 hs=>?_) a3;obtain⟨oL,_,_,a9,_⟩:=id hn;refine h _ ⟨I.ok,I.os,I.bare,⟨λ b o e n hb hx=>?_,λ b o e n hb hx=>?_,I.base.free,λ b o e hx=>?_,I.base.tups,I.base.frzs,I.base.tbls⟩,⟨_,a8,λ j y v' e1 e2 e3=>?_⟩,λ y c e=>?_,I.free,I.freeC,λ p hp=>?_,tracked ⟨oL,a9,I.free⟩ hs,by simpa using I.len⟩ ⟨_,hs,.inl rfl⟩
  ·exact(hs.2 b (QY (Q0 (QH e) I.ok.above))).trans (I.base.keep b o e n hb hx)
  ·obtain⟨sl,e1⟩:=I.base.slot b o e n hb hx;exact⟨sl,(hs.2 b (QY (Q0 (QH e) I.ok.above))).trans e1⟩
  ·obtain⟨o',e1⟩:=I.base.there b o e hx;exact⟨o',(hs.2 b (QY (Q0 (QH e) I.ok.above))).trans e1⟩
  ·by_cases hj:j=i
   ·subst hj;rw [hi] at e1;cases e1;rw [List.getElem?_set_self a4] at e2;cases e2;exact⟨u,r,.inl ⟨hk,by simp⟩⟩
   ·rw [Ur (QQ hj)] at e2;obtain⟨u',r',q⟩:=hl j y v' e1 e2 e3;refine⟨u',r',?_⟩
    rcases q with ⟨k,e⟩|⟨k,c,e,z⟩
    ·refine .inl ⟨k,?_⟩;have:y ≠ x:=λ e=>hj (uV hN e1 (e ▸ hi));simp [this,e]
    ·exact .inr ⟨k,c,e,z.sameBut hs (cne y c e)⟩
  ·obtain⟨w',z⟩:=I.cell y c e;exact⟨w',z.sameBut hs (cne y c e)⟩
  ·obtain⟨e,n,ne,nf,d⟩:=I.pin p hp;exact⟨(hs.2 p.1 ne).trans e,n,ne,nf,d⟩
 ·have aX:X.fn x=true:=by
   rcases hf with z|z
   ·exact z
   ·rw [z] at hk;cases hk
  obtain⟨c,hc⟩:=I.ok.has x (.inl hk);obtain⟨w',z⟩:=I.cell x c hc;refine wpAny_storeName_cell I.ok.kind hk hc z (λ h' a5 hs=>?_);obtain⟨oc,a6,a7⟩:=id z;refine h { s with heap:=h' } ⟨I.ok,I.os,I.bare,⟨λ b o e n hb hx=>?_,λ b o e n hb hx=>?_,I.base.free,λ b o e hx=>?_,I.base.tups,I.base.frzs,I.base.tbls⟩,⟨m,hn.sameBut hs (QQ (cne x c hc)),λ j y v' e1 e2 e3=>?_⟩,λ y c' e=>?_,I.free,I.freeC,λ p hp=>?_,tracked ⟨oc,a6,I.freeC x c hc⟩ hs,by simpa using I.len⟩ ⟨c,hs,.inr hc⟩
  ·exact(hs.2 b (QY (Q0 (QH e) (I.ok.cab x c aX hc)))).trans (I.base.keep b o e n hb hx)
  ·obtain⟨sl,e1⟩:=I.base.slot b o e n hb hx;exact⟨sl,(hs.2 b (QY (Q0 (QH e) (I.ok.cab x c aX hc)))).trans e1⟩
  ·obtain⟨o',e1⟩:=I.base.there b o e hx;exact⟨o',(hs.2 b (QY (Q0 (QH e) (I.ok.cab x c aX hc)))).trans e1⟩
  ·by_cases hj:j=i
   ·subst hj;rw [hi] at e1;cases e1;rw [List.getElem?_set_self a4] at e2;cases e2;exact⟨u,r,.inr ⟨.inl hk,c,hc,a5⟩⟩
   ·rw [Ur (QQ hj)] at e2;obtain⟨u',r',q⟩:=hl j y v' e1 e2 e3;refine⟨u',r',?_⟩
    rcases q with q|⟨k,c',e,z'⟩
    ·exact .inl q
    ·refine .inr ⟨k,c',e,z'.sameBut hs ?_⟩;rintro rfl;exact hj (uV hN e1 (I.ok.inj _ _ _ e hc ▸ hi))
  ·by_cases hcc:c'=c
   ·subst hcc;exact⟨_,a5⟩
   ·obtain⟨w2,z2⟩:=I.cell y c' e;exact⟨w2,z2.sameBut hs hcc⟩
  ·obtain⟨e,n,ne,nf,d⟩:=I.pin p hp;refine⟨(hs.2 p.1 ?_).trans e,n,ne,nf,d⟩;intro q;rw [q,a6] at e;have q':oc=p.2:=Q2 e;exact d w' (by rw [←q'];exact a7)
def uM{M:Model}{A:Around}{E:Value->Shared->Prop}{i:Nat}{x:Str}{v:V}{u:Value}{Q:Unit->Shared->Prop}(I:Inv X pins σ H s)(hN:X.N.Nodup)(hi:X.N[i]? = some x)(hx:Loc X.env.scope x)(r:bF v u)
  (h:∀ s',Inv X pins (σ.set i (some v)) H s'->Q () s') (hf:X.fn x=true\/X.env.scope.names.lookup x=some .local:=by first|exact .inl rfl|exact .inr rfl|assumption):wpAny M A (storeName X.env x u) Q E s:=
 qh I hN hi hx r (λ s' I' _=>h s' I') hf
def Inv.call'{s':Shared}{ch:List Addr}(I:Inv X pins σ H s)(ho:s'.os=s.os)(u:Un (frs X.stack) ch H H' s.heap s'.heap)(hok:HOk X.prog X.w H' s'.heap)(hg:AllBare s'.gens)
  (aS:∀ b∈ch,(b∈X.ex\/X.s₀.heap.objs.size<=b)/\b ≠ X.env.locals/\(∀ x c,X.env.cells.lookup x=some c->c ≠ b)/\∀ p∈X.pn++pins,p.1 ≠ b):Inv X pins σ H' s':=by
 obtain⟨h',g',d',t',o'⟩:=s';have e:o'=s.os:=ho;subst e;exact I.call (g':=g') (t':=t') (d':=d') u hok hg aS
end
abbrev XK:=Value->Option Addr->Hp->Prop
abbrev St:=List (Option V)
abbrev VK:=V->Hp->Prop
abbrev TE:=St->Hp->VK->Prop
abbrev TT:=St->Hp->(Bool->Hp->Prop)->Prop
abbrev TA:=St->Hp->(List V->Hp->Prop)->Prop
structure ux where
 nx:St->Hp->Prop
 rt:VK
 bk:St->Hp->Prop:=λ _ _=>False
 ct:St->Hp->Prop:=λ _ _=>False
abbrev TS:=ux->St->Hp->Prop
def EP(X:Cx)(pins:List (Addr × Obj))(σ:St)(Q:VK)(u:Value)(s':Shared):Prop:=∃ v H',Inv X pins σ H' s'/\bF v u/\Q v H'
def TP(X:Cx)(pins:List (Addr × Obj))(σ:St)(Q:Bool->Hp->Prop)(b:Bool)(s':Shared):Prop:=∃ H',Inv X pins σ H' s'/\Q b H'
def AP(X:Cx)(pins:List (Addr × Obj))(σ:St)(Q:List V->Hp->Prop)(us:List Value)(s':Shared):Prop:=∃ vs H',Inv X pins σ H' s'/\aY vs us/\Q vs H'
def SP(X:Cx)(pins:List (Addr × Obj))(D:ux)(f:Flow)(s':Shared):Prop:=
 match f with
 | .next=>∃ σ' H',Inv X pins σ' H' s'/\D.nx σ' H'
 | .brk=>∃ σ' H',Inv X pins σ' H' s'/\D.bk σ' H'
 | .cont=>∃ σ' H',Inv X pins σ' H' s'/\D.ct σ' H'
 | .ret u=>∃ v σ' H',Inv X pins σ' H' s'/\bF v u/\D.rt v H'
def PE(X:Cx)(e:Expr)(t:TE):Prop:=
 ∀ (pins:List (Addr × Obj)) (s:Shared) (σ:St) (H:Hp) (Q:VK),Inv X pins σ H s->t σ H Q->wpAny (model X.prog X.w) X.A (eval e X.env) (EP X pins σ Q) X.xe s
def PT(X:Cx)(e:Expr)(t:TT):Prop:=
 ∀ (pins:List (Addr × Obj)) (s:Shared) (σ:St) (H:Hp) (Q:Bool->Hp->Prop),Inv X pins σ H s->t σ H Q->wpAny (model X.prog X.w) X.A (isTrue e X.env (eval e X.env)) (TP X pins σ Q) X.xe s
def PW(X:Cx)(e:Expr)(t:TT):Prop:=
 ∀ (whole:Sem Value) (pins:List (Addr × Obj)) (s:Shared) (σ:St) (H:Hp) (Q:Bool->Hp->Prop),Inv X pins σ H s->t σ H Q->wpAny (model X.prog X.w) X.A (isTrue e X.env whole) (TP X pins σ Q) X.xe s
def PW.pt{X:Cx}{e:Expr}{t:TT}(h:PW X e t):PT X e t:=h _
def PA(X:Cx)(es:List Expr)(t:TA):Prop:=
 ∀ (pos:Pos) (pins:List (Addr × Obj)) (s:Shared) (σ:St) (H:Hp) (Q:List V->Hp->Prop),Inv X pins σ H s->t σ H Q->wpAny (model X.prog X.w) X.A (spliced (backTo pos (starEach es X.env))) (AP X pins σ Q) X.xe s
def PS(X:Cx)(st:Stmt)(t:TS):Prop:=
 ∀ (pins:List (Addr × Obj)) (s:Shared) (σ:St) (H:Hp) (D:ux),Inv X pins σ H s->t D σ H->wpAny (model X.prog X.w) X.A (exec st X.env) (SP X pins D) X.xe s
def PSs(X:Cx)(st:List Stmt)(t:TS):Prop:=
 ∀ (pins:List (Addr × Obj)) (s:Shared) (σ:St) (H:Hp) (D:ux),Inv X pins σ H s->t D σ H->wpAny (model X.prog X.w) X.A (execs st X.env) (SP X pins D) X.xe s
def thn{α:Type}{t:Sem α}{Q Q':α->Shared->Prop}{M:Model}{A:Around}{E:Value->Shared->Prop}{s:Shared}(h:wpAny M A t Q E s)(hQ:∀ a s,Q a s->Q' a s):wpAny M A t Q' E s:=Ui h hQ λ _ _ x=>x
section
variable {X:Cx}
def MZ(i:Nat):TE:=λ σ H Q=>∃ v,σ[i]? = some (some v)/\Q v H
def tC(v:V):TE:=λ _ H Q=>Q v H
def K6{i:Nat}{x:Str}{pos:Pos}(hN:X.N[i]? = some x)(hv:Vis X.env.scope x)(hd:(x == ("__debug__":Str))=false:=by decide)(aX:(x == ("__classdict__":Str))=false:=by decide):PE X (.Name x pos) (MZ i):=by
 intro pins s σ H Q I h;obtain⟨v,e,h⟩:=h;obtain⟨m,hn,hl⟩:=I.loc;obtain⟨u,r,l⟩:=hl i x v hN e hv;have fin:EP X pins σ Q u s:=⟨v,H,I,r,h⟩
 rcases l with ⟨hk,hm⟩|⟨hk,c,hc,aS⟩
 ·exact wpAny_Name (wpAny_loadName_local I.ok.kind hk hn hm fin) hd
 ·rcases hk with hk|hk
  ·exact wpAny_Name (wpAny_loadName_cell I.ok.kind hk hc aS fin) hd
  ·exact wpAny_Name (wpAny_loadName_free I.ok.kind hk hc aS fin aX) hd
def fX{i j pos}:PE X (.Constant (.int i) j pos) (tC (.int i)):=λ _ _ _ H _ I h=>wpAny_Constant_int ⟨.int i,H,I.tok _,⟨_,rfl⟩,h⟩
def fW{b j pos}:PE X (.Constant (.bool b) j pos) (tC (.bl b)):=λ _ _ _ H _ I h=>Constant_bool ⟨.bl b,H,I,rfl,h⟩
def mF{j pos}:PE X (.Constant .none j pos) (tC .non):=λ _ _ _ H _ I h=>Constant_none ⟨.non,H,I,rfl,h⟩
def mE{x j pos}:PE X (.Constant (.str x) j pos) (tC (.str x)):=λ _ _ _ H _ I h=>Calls.Constant_str ⟨.str x,H,I.tok _,⟨_,rfl⟩,h⟩
def Gl(X:Cx)(x:Str):Prop:=X.env.kindOf x=some .globalImplicit
def sT{E:Value->Shared->Prop}{pins:List (Addr × Obj)}{s:Shared}{σ:St}{H:Hp}{x:Str}{u:Value}{pos:Pos}{Q:Value->Shared->Prop}(I:Inv X pins σ H s)(hg:Gl X x)(hm:X.mg x=some u)(h:Q u s)
  (hd:(x == ("__debug__":Str))=false:=by decide):wpAny (model X.prog X.w) X.A (eval (.Name x pos) X.env) Q E s:=
 Calls.Name_function_global I.ok.kind hg (Calls.loadGlobal_global (by rw [I.ok.glob];exact I.mod.glob.keeps I.bk) hm h) hd
def eV{E:Value->Shared->Prop}{pins:List (Addr × Obj)}{s:Shared}{σ:St}{H:Hp}{x:Str}{u:Value}{pos:Pos}{Q:Value->Shared->Prop}(I:Inv X pins σ H s)(hg:Gl X x)(hm:X.mg x=none)(hv:bootBuiltins x=some u)(h:Q u s)
  (hn:x ≠ "__name__":=by decide) (hd:(x == ("__debug__":Str))=false:=by decide):wpAny (model X.prog X.w) X.A (eval (.Name x pos) X.env) Q E s:=by
 obtain⟨mb,h1,h2⟩:=I.mod.blt;exact Calls.Name_function_global I.ok.kind hg (Calls.loadGlobal_builtin (by rw [I.ok.glob];exact I.mod.glob.keeps I.bk) hm (by rw [I.ok.blt];exact h1.keeps I.bk) ((h2 x hn).trans hv) h) hd
def nQ{x:Str}{v:V}{u:Value}{pos:Pos}(hg:Gl X x)(hm:X.mg x=some u)(r:bF v u)(hd:(x == ("__debug__":Str))=false:=by decide):PE X (.Name x pos) (tC v):=
 λ _ _ _ H _ I h=>sT I hg hm ⟨v,H,I,r,h⟩ hd
def Hs{x:Str}{v:V}{u:Value}{pos:Pos}(hg:Gl X x)(hm:X.mg x=none)(hv:bootBuiltins x=some u)(r:bF v u)(hn:x ≠ "__name__":=by decide)(hd:(x == ("__debug__":Str))=false:=by decide):PE X (.Name x pos) (tC v):=
 λ _ _ _ H _ I h=>eV I hg hm hv ⟨v,H,I,r,h⟩ hn hd
variable {a b:Expr}{ta tb:TE}{pos:Pos}
def tB(t:TE):TT:=λ σ H Q=>t σ H λ x H1=>∃ c,x=.bl c/\Q c H1
def K0{e:Expr}{t:TE}(h:PE X e t)(he:∀ whole,isTrue e X.env whole=(do let v ←whole;standAt e.pos;holding [v] (truthy v)):=by intro _;rfl):PT X e (tB t):=by
 intro pins s σ H Q I hw;refine isTrue_plain (thn (h pins s σ H _ I hw) λ v s1 ⟨x,H1,I1,r1,q1⟩=>?_) (he _);obtain⟨d,rfl,q⟩:=q1;cases r1;exact RZ ⟨H1,I1,q⟩
variable {tA tB':TT}{vL:List Expr}
def Pg(t u:TT):TT:=λ σ H Q=>t σ H λ c H1=>if c=true then u σ H1 Q else Q false H1
def tOr(t u:TT):TT:=λ σ H Q=>t σ H λ c H1=>if c=true then Q true H1 else u σ H1 Q
def Pc(t:TT):TT:=λ σ H Q=>t σ H λ c H1=>Q (!c) H1
def kl(ha:PT X a tA):PW X (.BoolOp .And [a] pos) tA:=by
 intro wh pins s σ H Q I h;refine isTrue_and (thn (ha pins s σ H Q I h) λ c s1 e=>?_)
 cases c with
 | true=>exact isTrue_and_nil e
 | false=>exact e
def KZ(ha:PT X a tA):PW X (.BoolOp .Or [a] pos) tA:=by
 intro wh pins s σ H Q I h;refine isTrue_or (thn (ha pins s σ H Q I h) λ c s1 e=>?_)
 cases c with
 | false=>exact isTrue_or_nil e
 | true=>exact e
def mD(ha:PT X a tA)(hb:PW X (.BoolOp .And (b::vL) pos) tB'):PW X (.BoolOp .And (a::b::vL) pos) (Pg tA tB'):=by
 intro wh pins s σ H Q I h;refine isTrue_and (thn (ha pins s σ H _ I h) λ c s1 ⟨H1,I1,q1⟩=>?_)
 cases c with
 | true=>exact hb wh pins s1 σ H1 Q I1 q1
 | false=>exact⟨H1,I1,q1⟩
def Oa(ha:PT X a tA)(hb:PW X (.BoolOp .Or (b::vL) pos) tB'):PW X (.BoolOp .Or (a::b::vL) pos) (tOr tA tB'):=by
 intro wh pins s σ H Q I h;refine isTrue_or (thn (ha pins s σ H _ I h) λ c s1 ⟨H1,I1,q1⟩=>?_)
 cases c with
 | true=>exact⟨H1,I1,q1⟩
 | false=>exact hb wh pins s1 σ H1 Q I1 q1
def K1(ha:PT X a tA):PT X (.UnaryOp .Not a pos) (Pc tA):=by
 intro pins s σ H Q I h;exact isTrue_not (ha pins s σ H (λ c H1=>Q (!c) H1) I h)
def Kb(ta tb:TE):TE:=λ σ H Q=>ta σ H λ x H1=>∃ c,x=.bl c/\if c=true then tb σ H1 Q else Q (.bl false) H1
def J6(ta:TE):TE:=λ σ H Q=>ta σ H λ x H1=>∃ c,x=.bl c/\Q (.bl (!c)) H1
def K7{op}{t:TE}(h:PE X a t):PE X (.BoolOp op [a] pos) t:=λ pins s σ H Q I hw=>BoolOp_one (h pins s σ H Q I hw)
def K9(ha:PE X a ta)(hb:PE X (.BoolOp .And (b::vL) pos) tb):PE X (.BoolOp .And (a::b::vL) pos) (Kb ta tb):=by
 intro pins s σ H Q I h;refine BoolOp_and (thn (ha pins s σ H _ I h) λ v s1 ⟨x,H1,I1,r1,q1⟩=>?_);obtain⟨c,rfl,q1⟩:=q1;cases r1;refine RZ ?_
 cases c with
 | true=>exact hb pins s1 σ H1 Q I1 q1
 | false=>exact⟨.bl false,H1,I1,rfl,q1⟩
def K8(ha:PE X a ta):PE X (.UnaryOp .Not a pos) (J6 ta):=by
 intro pins s σ H Q I h;refine UnaryOp_ (thn (ha pins s σ H _ I h) λ v s1 ⟨x,H1,I1,r1,q1⟩=>?_);obtain⟨c,rfl,q1⟩:=q1;cases r1;exact not_of (RZ ⟨.bl (!c),H1,I1,rfl,q1⟩)
def tIf(t:TT)(ta tb:TE):TE:=λ σ H Q=>t σ H λ c H1=>if c=true then ta σ H1 Q else tb σ H1 Q
def oI{c:Expr}(hc:PT X c tA)(ha:PE X a ta)(hb:PE X b tb):PE X (.IfExp c a b pos) (tIf tA ta tb):=by
 intro pins s σ H Q I h;refine wpAny_IfExp (thn (hc pins s σ H _ I h) λ d s1 ⟨H1,I1,q1⟩=>?_)
 cases d with
 | true=>exact ha pins s1 σ H1 Q I1 q1
 | false=>exact hb pins s1 σ H1 Q I1 q1
end
def SqL(K:W.Frag)(H:Hp)(a:Addr)(xs:List V):Prop:=
 Rd H a (.lst xs) \/
  ∃ (o:Obj) (its:Array Value) (n:Nat),K.lookup a=some o/\o.cls=.type "list" /\ o.dict=none/\o.data=.seq its n/\its.size<=sizeLine/\aY xs its.toList
def SqT(K:W.Frag)(H:Hp)(a:Addr)(xs:List V):Prop:=
 Rd H a (.tup xs) \/
  ∃ (o:Obj) (its:Array Value) (n:Nat),K.lookup a=some o/\o.cls=.type "tuple" /\ o.data=.seq its n/\its.size<=sizeLine/\aY xs its.toList
def Qx:Value->Option V
 | .none=>some .non
 | .bool b=>some (.bl b)
 | .int i _=>some (.int i)
 | .str x _=>some (.str x)
 | .bytes b _=>some (.byt b)
 | .float b _=>some (.flt b)
 | .ref a=>some (.ref a)
 | .type n=>some (.ty n)
 | _=>none
def bF.abs{x:V}{u:Value}(r:bF x u):Qx u=some x:=by
 cases x with
 | non=>cases r;rfl
 | bl _=>cases r;rfl
 | int _=>obtain⟨t,rfl⟩:=r;rfl
 | str _=>obtain⟨t,rfl⟩:=r;rfl
 | byt _=>obtain⟨t,rfl⟩:=r;rfl
 | flt _=>obtain⟨t,rfl⟩:=r;rfl
 | ref _=>cases r;rfl
 | ty _=>cases r;rfl
def bF.inj{x y:V}{u:Value}(r:bF x u)(q:bF y u):x=y:=Q2 (r.abs.symm.trans q.abs)
def aY.inj:∀ {xs ys:List V}{us:List Value},aY xs us->aY ys us->xs=ys
 | _,_,_,.nil,.nil=>rfl
 | _,_,_,.cons r t,.cons r' t'=>by rw [r.inj r',aY.inj t t']
section
variable {X:Cx}{pins:List (Addr × Obj)}{σ:St}{H:Hp}{s:Shared}{a:Addr}{xs ys:List V}
def SqL.of{K:W.Frag}(h:H a=some (.lst xs)):SqL K H a xs:=.inl (.inl h)
def SqT.of{K:W.Frag}(h:H a=some (.tup xs)):SqT K H a xs:=.inl (.inl h)
def Inv.list(I:Inv X pins σ H s)(h:SqL X.K H a xs):∃ its:List Value,aY xs its/\PlainL s.heap a its.toArray/\xs.length<=sizeLine:=by
 rcases h with h|⟨o,its,n,hk,hc,hd,hs,hz,r⟩
 ·obtain⟨z,its,n,r,e⟩:=h.ok I.hok;exact⟨its,r,⟨_,n,e,rfl,rfl,rfl⟩,z⟩
 ·refine⟨its.toList,r,⟨o,n,I.kIn a o hk,hc,hd,by simpa using hs⟩,?_⟩;have e:=r.length;simp only [TN] at e;omega
def Inv.tuple(I:Inv X pins σ H s)(h:SqT X.K H a xs):∃ its:List Value,aY xs its/\IsTup s.heap a its.toArray/\xs.length<=sizeLine:=by
 rcases h with h|⟨o,its,n,hk,hc,hs,hz,r⟩
 ·obtain⟨z,its,r,p⟩:=h.ok I.hok;exact⟨its,r,p,z⟩
 ·refine⟨its.toList,r,⟨o,I.kIn a o hk,hc,n,by simpa using hs⟩,?_⟩;have e:=r.length;simp only [TN] at e;omega
def Inv.list_inj(I:Inv X pins σ H s)(h:SqL X.K H a xs)(h':SqL X.K H a ys):xs=ys:=by
 obtain⟨its,r,⟨o,n,e,_,_,d⟩,_⟩:=I.list h;obtain⟨its',r',⟨o',n',e',_,_,d'⟩,_⟩:=I.list h';rw [e] at e';cases e';rw [d] at d'
 injection d' with d1 _
 have:its=its':=by simpa using RS Array.toList d1
 subst this;exact r.inj r'
def Inv.tuple_inj(I:Inv X pins σ H s)(h:SqT X.K H a xs)(h':SqT X.K H a ys):xs=ys:=by
 obtain⟨its,r,⟨o,e,_,n,d⟩,_⟩:=I.tuple h;obtain⟨its',r',⟨o',e',_,n',d'⟩,_⟩:=I.tuple h';rw [e] at e';cases e';rw [d] at d'
 injection d' with d1 _
 have:its=its':=by simpa using RS Array.toList d1
 subst this;exact r.inj r'
end
abbrev Cx.wish(X:Cx)(E:Value->Shared->Prop):Cx:={ X with xe:=E }
abbrev Cx.nox(X:Cx):Cx:=X.wish λ _ _=>False
def Cx.Ok.wish{X:Cx}(ok:X.Ok)(E:Value->Shared->Prop):(X.wish E).Ok:=
 ⟨ok.mod,ok.kind,ok.glob,ok.blt,ok.above,ok.inj,ok.has,ok.cab,ok.hd,ok.frames,ok.stk,ok.exf,ok.bs,ok.bsz,ok.noex,ok.exfs,ok.funs,ok.frf⟩
def Cx.Ok.unwish{X:Cx}{E:Value->Shared->Prop}(ok:(X.wish E).Ok):X.Ok:=
 ⟨ok.mod,ok.kind,ok.glob,ok.blt,ok.above,ok.inj,ok.has,ok.cab,ok.hd,ok.frames,ok.stk,ok.exf,ok.bs,ok.bsz,ok.noex,ok.exfs,ok.funs,ok.frf⟩
section
variable {X:Cx}{pins:List (Addr × Obj)}{σ:St}{H:Hp}{s:Shared}{E:Value->Shared->Prop}
def Inv.wish(I:Inv X pins σ H s)(E:Value->Shared->Prop):Inv (X.wish E) pins σ H s:=⟨I.ok.wish E,I.os,I.bare,I.base,I.loc,I.cell,I.free,I.freeC,I.pin,I.hok,I.len⟩
def Inv.unwish(I:Inv (X.wish E) pins σ H s):Inv X pins σ H s:=⟨I.ok.unwish,I.os,I.bare,I.base,I.loc,I.cell,I.free,I.freeC,I.pin,I.hok,I.len⟩
def SP.unwish{D:ux}{f:Flow}{s':Shared}(h:SP (X.wish E) pins D f s'):SP X pins D f s':=by
 cases f with
 | next=>obtain⟨σ',H',I,q⟩:=h;exact⟨σ',H',I.unwish,q⟩
 | brk=>obtain⟨σ',H',I,q⟩:=h;exact⟨σ',H',I.unwish,q⟩
 | cont=>obtain⟨σ',H',I,q⟩:=h;exact⟨σ',H',I.unwish,q⟩
 | ret u=>obtain⟨v,σ',H',I,r,q⟩:=h;exact⟨v,σ',H',I.unwish,r,q⟩
def PSs.nox{st:List Stmt}{t:TS}(h:PSs X.nox st t):PSs X st t:=λ pins s σ H D I hw=>
 Ui (h pins s σ H D (I.wish _) hw) (λ _ _ q=>q.unwish) λ _ _ z=>False.elim z
end
section
variable {X:Cx}{st:Stmt}{vL:List Stmt}{t u:TS}{e:Expr}{te:TE}{pos:Pos}
def J7:TS:=λ D σ H=>D.nx σ H
def Pa(t u:TS):TS:=λ D σ H=>t { D with nx:=u D } σ H
def aq:PSs X [] J7:=λ _ _ σ H _ I h=>UB ⟨σ,H,I,h⟩
def iG(h1:PS X st t)(h2:PSs X vL u):PSs X (st::vL) (Pa t u):=by
 intro pins s σ H D I h;refine wpAny_execs_cons (thn (h1 pins s σ H { D with nx:=u D } I h) λ f s1 q=>?_)
 cases f with
 | next=>
  obtain⟨σ',H',I',q⟩:=q;exact h2 pins s1 σ' H' D I' q
 | ret v=>exact q
 | brk=>exact q
 | cont=>exact q
def nP(h1:PS X st t):PSs X [st] t:=by
 intro pins s σ H D I h;refine wpAny_execs_cons (thn (h1 pins s σ H D I h) λ f s1 q=>?_)
 cases f with
 | next=>exact UB q
 | ret v=>exact q
 | brk=>exact q
 | cont=>exact q
def Inv.quiet{pins:List (Addr × Obj)}{σ:St}{H:Hp}{s:Shared}(I:Inv X pins σ H s):interactive X.env=false:=by simp [interactive,I.ok.kind]
def J8(te:TE):TS:=λ D σ H=>te σ H λ _ H1=>D.nx σ H1
def Hh(he:PE X e te)(hs:swapsWith e none pos.line X.env=pure false:=by rfl):PS X (.Expr e pos) (J8 te):=by
 intro pins s σ H D I h;exact wpAny_Expr_any (thn (he pins s σ H _ I h) λ v s1 ⟨x,H1,I1,r1,q1⟩=>⟨σ,H1,I1,q1⟩) I.quiet hs
def Pb(te:TE):TS:=λ D σ H=>te σ H D.rt
def yd(he:PE X e te):PS X (.Return (some e) pos) (Pb te):=by
 intro pins s σ H D I h;exact wpAny_Return_some (thn (he pins s σ H _ I h) λ v s1 ⟨x,H1,I1,r1,q1⟩=>⟨x,σ,H1,I1,r1,q1⟩)
def M0(c:TT)(t u:TS):TS:=λ D σ H=>c σ H λ b H1=>if b=true then t D σ H1 else u D σ H1
def Gb{c:Expr}{a b:List Stmt}{tc:TT}(hc:PT X c tc)(ha:PSs X a t)(hb:PSs X b u):PS X (.If c a b pos) (M0 tc t u):=by
 intro pins s σ H D I h;refine wpAny_If (thn (hc pins s σ H _ I h) λ d s1 ⟨H1,I1,q1⟩=>?_)
 cases d with
 | true=>exact ha pins s1 σ H1 D I1 q1
 | false=>exact hb pins s1 σ H1 D I1 q1
def KR:TS:=λ _ _ _=>False
def cj:PS X st KR:=λ _ _ _ _ _ _ h=>h.elim
end
abbrev TG:=V->St->Hp->(St->Hp->Prop)->Prop
abbrev TGs:=List V->St->Hp->(St->Hp->Prop)->Prop
def PG(X:Cx)(target:Expr)(t:TG):Prop:=
 ∀ (pins:List (Addr × Obj)) (s:Shared) (σ:St) (H:Hp) (v:V) (u:Value) (Q:St->Hp->Prop),Inv X pins σ H s->bF v u->t v σ H Q →
  wpAny (model X.prog X.w) X.A (assign target X.env u) (λ _ s'=>∃ σ' H',Inv X pins σ' H' s'/\Q σ' H') X.xe s
def PGs(X:Cx)(ts:List Expr)(t:TGs):Prop:=
 ∀ (pins:List (Addr × Obj)) (s:Shared) (σ:St) (H:Hp) (vs:List V) (us:List Value) (Q:St->Hp->Prop),Inv X pins σ H s->aY vs us->t vs σ H Q →
  wpAny (model X.prog X.w) X.A (assignInOrder ((assignEach ts X.env).map (·.2)) us) (λ _ s'=>∃ σ' H',Inv X pins σ' H' s'/\Q σ' H') X.xe s
abbrev E4:=V->V->V->Hp->(Hp->Prop)->Prop
def P6(X:Cx)(t:E4):Prop:=
 ∀ (pins:List (Addr × Obj)) (s:Shared) (σ:St) (H:Hp) (o i v:V) (ov iv u:Value) (Q:Hp->Prop),Inv X pins σ H s->bF o ov->bF i iv->bF v u->t o i v H Q →
  wpAny (model X.prog X.w) X.A (setItem ov iv u) (λ _ s'=>∃ H',Inv X pins σ H' s'/\Q H') X.xe s
section
variable {X:Cx}{pos:Pos}
def iC(i:Nat):TG:=λ v σ H Q=>Q (σ.set i (some v)) H
def yK{i:Nat}{x:Str}(hN:X.N.Nodup)(hi:X.N[i]? = some x)(hx:Loc X.env.scope x)(hf:X.fn x=true\/X.env.scope.names.lookup x=some .local:=by first|exact .inl rfl|exact .inr rfl|assumption):PG X (.Name x pos) (iC i):=by
 intro pins s σ H v u Q I r h;exact wpAny_assign_Name (uM I hN hi hx r (λ s' I'=>⟨_,H,I',h⟩) hf)
def P5:TGs:=λ vs σ H Q=>vs=[]/\Q σ H
def KD(t:TG)(u:TGs):TGs:=λ vs σ H Q=>∃ v r,vs=v::r/\t v σ H λ σ' H'=>u r σ' H' Q
def Hm:PGs X [] P5:=by
 intro pins s σ H vs us Q I r h;obtain⟨e,h⟩:=h;subst e;cases r;exact assignInOrder_nil ⟨σ,H,I,h⟩
def Di{e:Expr}{es:List Expr}{t:TG}{u:TGs}(h1:PG X e t)(h2:PGs X es u)
  (hs:(assignEach (e::es) X.env).map (·.2)=assign e X.env::(assignEach es X.env).map (·.2):=by rfl):PGs X (e::es) (KD t u):=by
 intro pins s σ H vs us Q I r h;obtain⟨v,vr,e1,h⟩:=h;subst e1
 cases r with
 | cons r rr=>
  rw [hs];refine assignInOrder_cons (thn (h1 pins s σ H _ _ _ I r h) λ _ s1 ⟨σ1,H1,I1,q1⟩=>?_);exact h2 pins s1 σ1 H1 _ _ Q I1 rr q1
def P2(K:W.Frag)(n:Nat)(t:TGs):TG:=λ v σ H Q=>∃ a xs,v=.ref a/\SqT K H a xs/\xs.length=n/\t xs σ H Q
def K5{es:List Expr}{k:Nat}{t:TGs}{n:Nat}(hc:X.calm=true)(h:PGs X es t)
  (hn:(assignEach es X.env).length=n:=by rfl) (aS:(assignEach es X.env).findIdx? (·.1)=none:=by rfl):PG X (.Tuple es k pos) (P2 X.K n t):=by
 intro pins s σ H v u Q I r hw;obtain⟨a,xs,e1,hq,hl,hw⟩:=hw;subst e1;cases r;obtain⟨its,rv,ht,hz⟩:=I.tuple hq;refine assign_Tuple_tuple (I.ok.hd hc) ht (by simp [hn,←hl,rv.length]) aS λ h' hx=>?_;have I1:Inv X pins σ H { s with heap:=h' }:=I.kept (t':=s.toks) λ b o e=>hx b o (QY (QH e)) e;exact h pins _ σ H xs _ Q I1 (by simpa using rv) hw
def P4(to ti:TE)(t:E4):TG:=λ v σ H Q=>to σ H λ o H1=>ti σ H1 λ i H2=>t o i v H2 λ H3=>Q σ H3
def uB{o i:Expr}{to ti:TE}{t:E4}(ho:PE X o to)(hi:PE X i ti)(hs:P6 X t)
  (ha:∀ v,assign (.Subscript o i pos) X.env v=(do
   let ov ←holding [v] (eval o X.env)
   let iv ←holding [v,ov] (eval i X.env)
   standAt pos
   holding [v,ov,iv] (setItem ov iv v)
   release [v,ov,iv] []):=by intro _;rfl):PG X (.Subscript o i pos) (P4 to ti t):=by
 intro pins s σ H v u Q I r h;rw [ha];refine My (R5 (thn (ho pins s σ H _ I h) λ ov s1 ⟨x,H1,I1,r1,q1⟩=>?_));refine My (R5 (thn (hi pins s1 σ H1 _ I1 q1) λ iv s2 ⟨y,H2,I2,r2,q2⟩=>?_));refine My (U5 (My (R5 (thn (hs pins s2 σ H2 x y v ov iv u _ I2 r1 r2 r q2) λ _ s3 ⟨H3,I3,q3⟩=>?_))));exact wpAny_release ⟨σ,H3,I3,q3⟩
def Nn(te:TE)(g:TG):TS:=λ D σ H=>te σ H λ x H1=>g x σ H1 D.nx
def pU{tg e:Expr}{te:TE}{g:TG}(he:PE X e te)(hg:PG X tg g)(hs:swapsWithSole [tg] e pos.line X.env=pure false:=by rfl)(hw:swappedStores [tg] e X.env=pure none:=by rfl)
  (h1:(assignEach [tg] X.env).map (·.2)=[assign tg X.env]:=by rfl):PS X (.Assign [tg] e pos) (Nn te g):=by
 intro pins s σ H D I h;refine wpAny_Assign_stores (thn (he pins s σ H _ I h) λ v s1 ⟨x,H1,I1,r1,q1⟩=>?_) hs hw;rw [h1];exact thn (hg pins s1 σ H1 x v _ I1 r1 q1) λ _ s2 q=>q
def gQ{i:Nat}{x:Str}{e:Expr}{te:TE}{pos':Pos}(hN:X.N.Nodup)(hi:X.N[i]? = some x)(hx:Loc X.env.scope x)(he:PE X e te)(hs:swapsWith e (some (.Name x pos')) pos.line X.env=pure false:=by rfl)(hf:X.fn x=true\/X.env.scope.names.lookup x=some .local:=by first|exact .inl rfl|exact .inr rfl|assumption) :
  PS X (.Assign [.Name x pos'] e pos) (Nn te (iC i)):=by
 intro pins s σ H D I h;refine wpAny_Assign_Name (thn (he pins s σ H _ I h) λ v s1 ⟨y,H1,I1,r1,q1⟩=>?_) hs;exact uM I1 hN hi hx r1 (λ s2 I2=>⟨_,H1,I2,q1⟩) hf
end
section
variable {X:Cx}{pos:Pos}
def xG(c:TT)(tb:TS):TS:=λ D σ H=>∃ W:Nat->St->Hp->Prop,(∃ m,W m σ H)/\∀ m σ H,W m σ H →
 c σ H λ b H1=>if b=true then ∃ N:St->Hp->Prop,(∀ σ' H',N σ' H'->∃ m',m' < m/\W m' σ' H')/\tb { D with nx:=N,ct:=N,bk:=D.nx } σ H1 else D.nx σ H1
def uT{c:Expr}{body:List Stmt}{tc:TT}{tb:TS}(hp:PassesOwn (model X.prog X.w) X.A X.env X.xe)(hc:PT X c tc)(hb:PSs X body tb):PS X (.While c body [] pos) (xG tc tb):=by
 intro pins s σ H D I h;obtain⟨W,⟨m0,w0⟩,turn⟩:=h;refine wpAny_While (codeAny_whileLoop (λ n s'=>∃ σ' H',Inv X pins σ' H' s'/\W n σ' H') ?_ m0 ⟨σ,H,I,w0⟩);rintro n s1 ⟨σ1,H1,I1,w1⟩;refine SW hp (thn (hc pins s1 σ1 H1 _ I1 (turn n σ1 H1 w1)) λ b s2 ⟨H2,I2,q2⟩=>?_)
 cases b with
 | true=>
  obtain⟨N,hN,q2⟩:=q2;rw [Rc rfl];refine SW hp (thn (hb pins s2 σ1 H2 _ I2 q2) λ f s3 q3=>?_)
  cases f with
  | next=>
   obtain⟨σ3,H3,I3,n3⟩:=q3;obtain⟨m',hm,w3⟩:=hN σ3 H3 n3;exact⟨m',hm,σ3,H3,I3,w3⟩
  | cont=>
   obtain⟨σ3,H3,I3,n3⟩:=q3;obtain⟨m',hm,w3⟩:=hN σ3 H3 n3;exact⟨m',hm,σ3,H3,I3,w3⟩
  | brk=>exact q3
  | ret v=>exact q3
 | false=>
  rw [Q5 QS];exact UB ⟨σ1,H2,I2,q2⟩
end
structure It where
 go:Nat->Hp->Prop
 yld:Nat->Hp->V->Hp->Prop
 stop:Nat->Hp->Prop
def r0(X:Cx)(pins:List (Addr × Obj))(H:Hp)(b:Addr):Prop:=
 H b=none/\b ≠ X.env.locals/\b ∉ X.fs/\(b∈X.ex\/X.s₀.heap.objs.size<=b)/\(∀ x c,X.env.cells.lookup x=some c->c ≠ b)/\∀ p∈X.pn++pins,p.1 ≠ b
def Inv.fpOk{X:Cx}{pins:List (Addr × Obj)}{σ:St}{H H':Hp}{s:Shared}{b:Addr}(I:Inv X pins σ H s)(hb:s.heap.objs.size<=b)(hn:H' b=none):r0 X pins H' b:=by
 refine⟨hn,RE (Q0 I.lt hb),I.nofs hb,.inr (RT I.sz hb),λ x c e z=>?_,λ p hp z=>?_⟩
 ·obtain⟨v,q⟩:=I.cell x c e;exact absurd (Q0 q.lt (by rw [z];exact hb)) (Ry _)
 ·exact absurd (Q0 (QH (I.pin p hp).1) (by rw [z];exact hb)) (Ry _)
structure B8(P:Program)(w:World)(K:W.Frag)(tg:Expr)(J:It)(fp:List Addr)(it:Addr)(tn:Nat->Heap->Prop):Prop where
 mem:it∈fp
 obj:∀ i h,tn i h->∀ b∈fp,∃ o,h.get? b=some o/\∀ v,o.data ≠ .cell v
 keep:∀ i h h',tn i h->(∀ b∈fp,∀ o,h.get? b=some o->h'.get? b=some o)->tn i h'
 item:∀ (X:Cx),X.prog=P->X.w=w->X.K=K->X.calm=true->∀ (i:Nat) (pins:List (Addr × Obj)) (s:Shared) (σ:St) (H:Hp) (E:Value->Shared->Prop),Inv X pins σ H s->(∀ b∈fp,r0 X pins H b)->tn i s.heap->J.go i H →
  wpAny (model P w) X.A (pyNext (.ref it)) (λ r s1=>∃ u,r=some u /\
   wpAny (model P w) X.A (letOwnedTupleGo tg (.ref it) u) (λ _ s2=>∃ x H',Inv X pins σ H' s2/\bF x u/\J.yld i H x H'/\tn (i+1) s2.heap/\∀ b∈fp,H' b=none) E s1) E s
 done:∀ (X:Cx),X.prog=P->X.w=w->X.K=K->X.calm=true->∀ (i:Nat) (pins:List (Addr × Obj)) (s:Shared) (σ:St) (H:Hp) (E:Value->Shared->Prop),Inv X pins σ H s->(∀ b∈fp,r0 X pins H b)->tn i s.heap->J.stop i H →
  wpAny (model P w) X.A (pyNext (.ref it)) (λ r s1=>r=none/\Inv X pins σ H s1) E s
 self:∀ (A:Around) (i:Nat) (s:Shared) (Q:Value->Shared->Prop) (E:Value->Shared->Prop),tn i s.heap->Q (.ref it) s->wpAny (model P w) A (pyIter (.ref it)) Q E s
abbrev TI:=St->Hp->(It->Hp->Prop)->Prop
def PIE(X:Cx)(pins:List (Addr × Obj))(σ:St)(tg:Expr)(R:It->Hp->Prop)(aS:Value)(s2:Shared):Prop:=
 ∃ (it:Addr) (fp:List Addr) (tn:Nat->Heap->Prop) (J:It) (H':Hp),aS=.ref it/\Inv X pins σ H' s2/\B8 X.prog X.w X.K tg J fp it tn/\tn 0 s2.heap/\(∀ b∈fp,r0 X pins H' b)/\R J H'
def PI(X:Cx)(tg iter:Expr)(wi:TI):Prop:=
 ∀ (pins:List (Addr × Obj)) (s:Shared) (σ:St) (H:Hp) (R:It->Hp->Prop),Inv X pins σ H s->wi σ H R →
  wpAny (model X.prog X.w) X.A (eval iter X.env) (λ v s1=>wpAny (model X.prog X.w) X.A (pyIter v) (PIE X pins σ tg R) X.xe s1) X.xe s
def Co{M:Model}{A:Around}{E:Value->Shared->Prop}{s:Shared}{tg:Expr}{it:Addr}{u:Value}{o:Obj}{n:String}{vs:Array Value}{Q:Unit->Shared->Prop}(ho:s.heap.get? it=some o)(hc:o.cls=.type n)(hd:o.data=.fields vs)
    (hn:["enumerate", "zip", "dict_itemiterator", "dict_reverseitemiterator", "odict_iterator", "itertools.zip_longest", "itertools.pairwise"].contains n=false) (hQ:Q () s):wpAny M A (letOwnedTupleGo tg (.ref it) u) Q E s:=by
  unfold letOwnedTupleGo
  cases tg<;>first
    | exact QI hQ
    | (cases u<;>first
        | exact QI hQ
        | (refine My (wpAny_load ho ?_)
           rw [hc,hd]
           show wpAny M A (if (["enumerate", "zip", "dict_itemiterator", "dict_reverseitemiterator", "odict_iterator", "itertools.zip_longest", "itertools.pairwise"].contains n && vs[0]? == some (rawInt _))=true then _ else _) Q E s
           rw [Q5 (by intro h;rw [hn,Uv] at h;cases h)];exact QI hQ))
def Itl(K:W.Frag)(a:Addr):It:=
 ⟨λ i H=>∃ xs x,SqL K H a xs/\xs[i]? = some x,λ i H x H'=>H'=H/\∀ xs,SqL K H a xs->xs[i]? = some x,λ i H=>∃ xs,SqL K H a xs/\xs.length<=i⟩
def Itt(K:W.Frag)(a:Addr):It:=
 ⟨λ i H=>∃ xs x,SqT K H a xs/\xs[i]? = some x,λ i H x H'=>H'=H/\∀ xs,SqT K H a xs->xs[i]? = some x,λ i H=>∃ xs,SqT K H a xs/\xs.length<=i⟩
def Itr(lo:Int)(n:Nat):It:=⟨λ i _=>i < n,λ i H x H'=>H'=H/\x=.int (lo+i),λ i _=>n<=i⟩
def zY{P:Program}{w:World}{K:W.Frag}{tg:Expr}(a it:Addr):B8 P w K tg (Itl K a) [it] it (λ i h=>h.IsListIter it a i) where
 mem:=by simp
 obj:=λ i h st b hb=>by
  have e:b=it:=by simpa using hb
  subst e;obtain⟨o,e,c,d⟩:=st;exact⟨o,e,λ v z=>by rw [d] at z;cases z⟩
 keep:=λ i h h' st k=>st.at λ o e=>k it (by simp) o e
 item:=by
  intro X hP hw hK hc i pins s σ H E I hf st hg;subst hP hw hK;obtain⟨xs,x,hq,hx⟩:=hg;obtain⟨its,rv,p,hz⟩:=I.list hq;obtain⟨u,hu,ru⟩:=rv.get hx;obtain⟨f0,f1,f2,f3,f4,f5⟩:=hf it (by simp);refine wpAny_pyNext_list_item st p.isList (x:=u) (by simpa using hu) λ h' aS sb=>?_;have I1:Inv X pins σ H { s with heap:=h' }:=I.turned (t':=s.toks) (λ b o hb e=>(sb.2 b hb).trans e) f0 f1 f3 f4 f5;obtain⟨o,e,c,d⟩:=id aS;exact⟨u,rfl,Co (s:={ s with heap:=h' }) e c d (by decide) ⟨x,H,I1,ru,⟨rfl,λ ys hy=>by rw [I.list_inj hy hq];exact hx⟩,aS,λ b hb=>(hf b hb).1⟩⟩
 done:=by
  intro X hP hw hK hc i pins s σ H E I hf st hg;subst hP hw hK;obtain⟨xs,hq,hx⟩:=hg;obtain⟨its,rv,p,hz⟩:=I.list hq;obtain⟨f0,f1,f2,f3,f4,f5⟩:=hf it (by simp);have hl:=rv.length;exact wpAny_pyNext_list_end (I.ok.hd hc) st p.isList (by simp;omega) λ h' eb=>⟨rfl,I.turned (t':=s.toks) (λ b o hb e=>eb b o hb e) f0 f1 f3 f4 f5⟩
 self:=λ _ _ _ _ _ st h=>wpAny_pyIter_listiter st h
def vV{P:Program}{w:World}{K:W.Frag}{tg:Expr}(a it:Addr):B8 P w K tg (Itt K a) [it] it (λ i h=>h.IsTupleIter it a i) where
 mem:=by simp
 obj:=λ i h st b hb=>by
  have e:b=it:=by simpa using hb
  subst e;obtain⟨o,e,c,d⟩:=st;exact⟨o,e,λ v z=>by rw [d] at z;cases z⟩
 keep:=λ i h h' st k=>st.at λ o e=>k it (by simp) o e
 item:=by
  intro X hP hw hK hc i pins s σ H E I hf st hg;subst hP hw hK;obtain⟨xs,x,hq,hx⟩:=hg;obtain⟨its,rv,p,hz⟩:=I.tuple hq;obtain⟨u,hu,ru⟩:=rv.get hx;obtain⟨f0,f1,f2,f3,f4,f5⟩:=hf it (by simp);refine wpAny_pyNext_tuple_item st (show s.heap.IsTuple a its.toArray from p) (x:=u) (by simpa using hu) λ h' aS sb=>?_;have I1:Inv X pins σ H { s with heap:=h' }:=I.turned (t':=s.toks) (λ b o hb e=>(sb.2 b hb).trans e) f0 f1 f3 f4 f5;obtain⟨o,e,c,d⟩:=id aS;exact⟨u,rfl,Co (s:={ s with heap:=h' }) e c d (by decide) ⟨x,H,I1,ru,⟨rfl,λ ys hy=>by rw [I.tuple_inj hy hq];exact hx⟩,aS,λ b hb=>(hf b hb).1⟩⟩
 done:=by
  intro X hP hw hK hc i pins s σ H E I hf st hg;subst hP hw hK;obtain⟨xs,hq,hx⟩:=hg;obtain⟨its,rv,p,hz⟩:=I.tuple hq;obtain⟨f0,f1,f2,f3,f4,f5⟩:=hf it (by simp);have hl:=rv.length;exact wpAny_pyNext_tuple_end (I.ok.hd hc) st (show s.heap.IsTuple a its.toArray from p) (by simp;omega) λ h' eb=>⟨rfl,I.turned (t':=s.toks) (λ b o hb e=>eb b o hb e) f0 f1 f3 f4 f5⟩
 self:=λ _ _ _ _ _ st h=>wpAny_pyIter_tupleiter st h
def vW{P:Program}{w:World}{K:PySem.W.Frag}{tg:Expr}(it:Addr)(lo:Int)(n:Nat):B8 P w K tg (Itr lo n) [it] it (λ i h=>IsRangeIter h it (lo+(i:Nat) * 1) ((n:Int) - (i:Nat)) 1) where
 mem:=by simp
 obj:=λ i h st b hb=>by
  have e:b=it:=by simpa using hb
  subst e
  exact⟨_,st,λ v z=>by
   have z':Data.fields _=Data.cell v:=z;cases z'⟩
 keep:=λ i h h' st k=>k it (by simp) _ st
 item:=by
  intro X hP hw hK hc i pins s σ H E I hf st hg;subst hP hw hK;obtain⟨f0,f1,f2,f3,f4,f5⟩:=hf it (by simp);have W:=Walks.range (prog:=X.prog) (w:=X.w) (I.ok.hd hc) it lo 1 n;refine W.item i s _ _ hg st λ v h' tk hv aS kk=>?_;obtain⟨t,rfl⟩:=hv;have I1:Inv X pins σ H { s with heap:=h',toks:=tk }:=I.turned (λ b o hb e=>kk b o (by simpa using hb) e) f0 f1 f3 f4 f5;refine⟨_,rfl,Co (s:={ s with heap:=h',toks:=tk }) (n := "range_iterator") aS rfl rfl (by decide) ⟨.int (lo+i),H,I1,⟨t,?_⟩,⟨rfl,rfl⟩,aS,λ b hb=>(hf b hb).1⟩⟩;rw [TM]
 done:=by
  intro X hP hw hK hc i pins s σ H E I hf st hg;subst hP hw hK;obtain⟨f0,f1,f2,f3,f4,f5⟩:=hf it (by simp);exact wpAny_pyNext_range_end (I.ok.hd hc) st (by have:n<=i:=hg;omega) λ h' eb=>⟨rfl,I.turned (t':=s.toks) (λ b o hb e=>eb b o hb e) f0 f1 f3 f4 f5⟩
 self:=λ _ _ _ _ _ st h=>wpAny_pyIter_rangeiter st h
section
variable {X:Cx}{tg:Expr}
def Dc{pins:List (Addr × Obj)}{σ:St}{H:Hp}{s:Shared}{R:It->Hp->Prop}{E:Value->Shared->Prop}{lo hi:Int}{t u v:Tok}{tk:Nat}(I:Inv X pins σ H s)(h1:-(2 ^ 62)<=lo)(h2:lo < 2 ^ 62)(h3:-(2 ^ 62)<=hi)(h4:hi < 2 ^ 62)
  (q:R (Itr lo (hi - lo).toNat) H):wpAny (model X.prog X.w) X.A (pyIter (.ref s.heap.objs.size)) (PIE X pins σ tg R) E { s with heap:=s.heap.push { cls:=.type "range",data:=.fields #[.int lo t,.int hi u,.int 1 v] },toks:=tk }:=by
 refine wpAny_pyIter_range (IsRange.new ..) (small_one h1 h2 h3 h4) ?_;have I1:Inv X pins σ H { s with heap:=s.heap.push { cls:=.type "range",data:=.fields #[.int lo t,.int hi u,.int 1 v] },toks:=tk }:=I.kept λ b o e=>QC _ e
 refine⟨(s.heap.push { cls:=.type "range",data:=.fields #[.int lo t,.int hi u,.int 1 v] }).objs.size,[(s.heap.push { cls:=.type "range",data:=.fields #[.int lo t,.int hi u,.int 1 v] }).objs.size],_,_,H,rfl,
  I1.kept (t':=tk) λ b o e=>QC _ e,vW _ lo (hi - lo).toNat,?_,λ b hb=>?_,q⟩
 ·have e1:lo+((0:Nat):Int) * 1=lo:=by simp
  have e2:(((hi - lo).toNat:Nat):Int) - ((0:Nat):Int)=Builtin.Range.rangeSize lo hi 1:=by rw [rangeSize_one];split<;>omega
  show IsRangeIter _ _ (lo+((0:Nat):Int) * 1) ((((hi - lo).toNat:Nat):Int) - ((0:Nat):Int)) 1
  rw [e1,e2];exact QN _ rfl
 ·have e:b=(s.heap.push { cls:=.type "range",data:=.fields #[.int lo t,.int hi u,.int 1 v] }).objs.size:=by simpa using hb
  subst e;exact I1.fpOk (QK _) (I1.hok.fresh (QK _))
def KA(ta:TA):TI:=λ σ H R=>ta σ H λ vs H1=>∃ j:Int,vs=[.int j]/\-(2 ^ 62)<=j/\j < 2 ^ 62/\R (Itr 0 j.toNat) H1
def Ak{a:Expr}{ta:TA}{p pos:Pos}(hg:Gl X "range")(hm:X.mg "range"=none)(ha:PA X [a] ta)(hs:starEach [a] X.env=[(false,eval a X.env)]:=by rfl):PI X tg (.Call (.Name "range" p) [a] [] pos) (KA ta):=by
 intro pins s σ H R I h;refine Call_ (eV I hg hm boot_range (Rl (thn (ha pos pins s σ H _ I h) λ us s1 ⟨vs,H1,I1,r1,q1⟩=>?_) hs rfl));obtain⟨j,e,q1,q2,q⟩:=q1;subst e
 cases r1 with
 | cons r rr=>
  cases rr;obtain⟨t,rfl⟩:=r;exact call_range_1 (Dc I1 (by omega) (by omega) q1 q2 (by simpa using q))
def Pd(wi:TI)(g:TG)(tb:TS):TS:=λ D σ H=>wi σ H λ J H1=>∃ W:Nat->Nat->St->Hp->Prop,(∃ m,W 0 m σ H1)/\∀ i m σ H,W i m σ H →
 (J.stop i H/\D.nx σ H)\/(J.go i H/\∃ N:St->Hp->Prop,(∀ σ' H',N σ' H'->∃ m',m' < m/\W (i+1) m' σ' H')/\∀ x H',J.yld i H x H'->g x σ H' λ σ2 H2=>tb { D with nx:=N,ct:=N,bk:=D.nx } σ2 H2)
def pX(fp:List Addr)(h:Heap):List (Addr × Obj):=fp.filterMap λ b=>(h.get? b).map λ o=>(b,o)
def gG{fp:List Addr}{h:Heap}{b:Addr}{o:Obj}(hb:b∈fp)(e:h.get? b=some o):(b,o)∈pX fp h:=List.mem_filterMap.mpr ⟨b,hb,by rw [e];rfl⟩
def Aw{fp:List Addr}{h:Heap}{p:Addr × Obj}(hp:p∈pX fp h):p.1∈fp/\h.get? p.1=some p.2:=by
 obtain⟨b,hb,e⟩:=List.mem_filterMap.mp hp
 cases q:h.get? b with
 | none=>rw [q] at e;cases e
 | some o=>
  rw [q] at e;have e':(b,o)=p:=Q2 e;subst e';exact⟨hb,q⟩
def Inv.pinned{pins:List (Addr × Obj)}{σ:St}{H:Hp}{s:Shared}{fp:List Addr}(I:Inv X pins σ H s)(hf:∀ b∈fp,r0 X pins H b)(ho:∀ b∈fp,∃ o,s.heap.get? b=some o/\∀ v,o.data ≠ .cell v):Inv X (pins++pX fp s.heap) σ H s:=
 I.pins_of λ p hp=>(Q6.mp hp).elim (λ z=>I.pin p (Q8 _ z)) λ z=>by
  obtain⟨hb,e⟩:=Aw z;obtain⟨f0,f1,f2,_⟩:=hf p.1 hb;obtain⟨o,e',d⟩:=ho p.1 hb;rw [e] at e';cases e';exact⟨e,f0,f1,f2,d⟩
def Inv.unpinned{pins pl:List (Addr × Obj)}{σ:St}{H:Hp}{s:Shared}(I:Inv X (pins++pl) σ H s):Inv X pins σ H s:=I.pins_of λ p hp=>I.pin p (Q8 _ (QZ _ hp))
def K2{iter:Expr}{body:List Stmt}{wi:TI}{g:TG}{tb:TS}{pos:Pos}(hp:PassesOwn (model X.prog X.w) X.A X.env X.xe)(hc:X.calm=true)(hi:PI X tg iter wi)(hg:PG X tg g)(hb:PSs X body tb)
  (hs:∀ x,foldedSetIterable iter X.env x=pure x:=by intro _;rfl):PS X (.For tg iter body [] pos) (Pd wi g tb):=by
 intro pins s σ H D I h;refine wpAny_For (thn (hi pins s σ H _ I h) λ v s1 h1=>thn h1 λ a8 s2 h2=>?_) hs;obtain⟨it,fp,tn,J,H2,e,I2,T,a5,f2,W,⟨m0,w0⟩,turn⟩:=h2;subst e;have aS:∀ {H':Hp},(∀ b∈fp,H' b=none)->∀ b∈fp,r0 X pins H' b:=λ hn b hb=>⟨hn b hb,(f2 b hb).2⟩;refine codeAny_forLoop_any (λ n s'=>∃ i σ' H',Inv X pins σ' H' s'/\tn i s'.heap/\(∀ b∈fp,H' b=none)/\W i n σ' H') ?_ m0 ⟨0,σ,H2,I2,a5,λ b hb=>(f2 b hb).1,w0⟩;rintro n s3 ⟨i,σ3,H3,I3,a3,a4,w3⟩
 rcases turn i n σ3 H3 w3 with ⟨stop,qn⟩|⟨go,N,hN,step⟩
 ·refine SW hp (thn (T.done X rfl rfl rfl hc i pins s3 σ3 H3 X.xe I3 (aS a4) a3 stop) λ r s4 ⟨hr,I4⟩=>?_);subst hr;exact UB ⟨σ3,H3,I4,qn⟩
 ·refine SW hp (thn (T.item X rfl rfl rfl hc i pins s3 σ3 H3 X.xe I3 (aS a4) a3 go) λ r s4 ⟨u,hr,h4⟩=>?_);subst hr;refine SW hp (thn h4 λ _ s5 ⟨x,H5,I5,r5,y5,aX,a6⟩=>?_);have a7:=I5.pinned (aS a6) (T.obj _ _ aX);refine SW hp (thn (hg _ s5 σ3 H5 x u _ a7 r5 (step x H5 y5)) λ _ s6 ⟨σ6,H6,I6,q6⟩=>?_);refine SW hp (thn (hb _ s6 σ6 H6 _ I6 q6) λ f s7 q7=>?_)
  have again:∀ {σ7:St} {H7:Hp},Inv X (pins++pX fp s5.heap) σ7 H7 s7->N σ7 H7->∃ m,m < n/\∃ i σ' H',Inv X pins σ' H' s7/\tn i s7.heap/\(∀ b∈fp,H' b=none)/\W i m σ' H':=λ {σ7 H7} I7 n7=>by
   obtain⟨m',hm,w7⟩:=hN σ7 H7 n7;refine⟨m',hm,i+1,σ7,H7,I7.unpinned,T.keep _ _ _ aX λ b hb o e=>(I7.pin (b,o) (Q8 _ (Q8 _ (gG hb e)))).1,λ b hb=>?_,w7⟩;obtain⟨o,e,d⟩:=T.obj _ _ aX b hb;exact(I7.pin (b,o) (Q8 _ (Q8 _ (gG hb e)))).2.1
  cases f with
  | next=>obtain⟨σ7,H7,I7,n7⟩:=q7;exact again I7 n7
  | cont=>obtain⟨σ7,H7,I7,n7⟩:=q7;exact again I7 n7
  | brk=>obtain⟨σ7,H7,I7,q7⟩:=q7;exact⟨σ7,H7,I7.unpinned,q7⟩
  | ret v=>obtain⟨x7,σ7,H7,I7,r7,q7⟩:=q7;exact⟨x7,σ7,H7,I7.unpinned,r7,q7⟩
end
def EB{K:PySem.W.Frag}{a:Addr}{xs:List V}{g:TG}{tb:TS}{D:ux}{σ:St}{H:Hp}(Pv:Nat->St->Hp->Prop)(h0:Pv 0 σ H)(hl:∀ i σ H,i<=xs.length->Pv i σ H->SqL K H a xs)
  (hs:∀ i x σ H,xs[i]? = some x->Pv i σ H->g x σ H λ σ2 H2=>tb { D with nx:=Pv (i+1),ct:=Pv (i+1),bk:=D.nx } σ2 H2) (hd:∀ σ H,Pv xs.length σ H->D.nx σ H) :
  ∃ W:Nat->Nat->St->Hp->Prop,(∃ m,W 0 m σ H)/\∀ i m σ H,W i m σ H →
   ((Itl K a).stop i H/\D.nx σ H)\/((Itl K a).go i H/\∃ N:St->Hp->Prop,(∀ σ' H',N σ' H'->∃ m',m' < m/\W (i+1) m' σ' H')/\∀ x H',(Itl K a).yld i H x H'->g x σ H' λ σ2 H2=>tb { D with nx:=N,ct:=N,bk:=D.nx } σ2 H2):=by
 refine⟨λ i m σ H=>m=xs.length - i/\i<=xs.length/\Pv i σ H,⟨xs.length,by simp,RP _,h0⟩,?_⟩;rintro i m σ H ⟨rfl,hi,p⟩;have q:=hl i σ H hi p
 by_cases hlt:i < xs.length
 ·refine .inr ⟨⟨xs,xs[i],q,by simp [hlt]⟩,Pv (i+1),λ σ' H' p'=>⟨xs.length - (i+1),by omega,rfl,hlt,p'⟩,λ x H' y=>?_⟩;obtain⟨e,y⟩:=y;subst e;exact hs i x σ _ (y xs q) p
 ·have e:i=xs.length:=by omega
  subst e;exact .inl ⟨⟨xs,q,QK _⟩,hd σ H p⟩
def BE{lo:Int}{n:Nat}{g:TG}{tb:TS}{D:ux}{σ:St}{H:Hp}(Pv:Nat->St->Hp->Prop)(h0:Pv 0 σ H)
  (hs:∀ i σ H,i < n->Pv i σ H->g (.int (lo+i)) σ H λ σ2 H2=>tb { D with nx:=Pv (i+1),ct:=Pv (i+1),bk:=D.nx } σ2 H2) (hd:∀ σ H,Pv n σ H->D.nx σ H) :
  ∃ W:Nat->Nat->St->Hp->Prop,(∃ m,W 0 m σ H)/\∀ i m σ H,W i m σ H →
   ((Itr lo n).stop i H/\D.nx σ H)\/((Itr lo n).go i H/\∃ N:St->Hp->Prop,(∀ σ' H',N σ' H'->∃ m',m' < m/\W (i+1) m' σ' H')/\∀ x H',(Itr lo n).yld i H x H'->g x σ H' λ σ2 H2=>tb { D with nx:=N,ct:=N,bk:=D.nx } σ2 H2):=by
 refine⟨λ i m σ H=>m=n - i/\i<=n/\Pv i σ H,⟨n,by simp,RP _,h0⟩,?_⟩;rintro i m σ H ⟨rfl,hi,p⟩
 by_cases hlt:i < n
 ·refine .inr ⟨hlt,Pv (i+1),λ σ' H' p'=>⟨n - (i+1),by omega,rfl,hlt,p'⟩,λ x H' y=>?_⟩;obtain⟨e,y⟩:=y;subst e y;exact hs i σ _ hlt p
 ·have e:i=n:=by omega
  subst e;exact .inl ⟨QK _,hd σ H p⟩
abbrev R2:=V->V->Hp->VK->Prop
def OpR(X:Cx)(f:Value->Value->Sem Value)(r:R2):Prop:=
 ∀ (pins:List (Addr × Obj)) (s:Shared) (σ:St) (H:Hp) (x y:V) (v u:Value) (Q:VK),Inv X pins σ H s->bF x v->bF y u->r x y H Q →
  wpAny (model X.prog X.w) X.A (f v u) (EP X pins σ Q) X.xe s
def UnR(X:Cx)(f:Value->Sem Value)(r:V->Hp->VK->Prop):Prop:=
 ∀ (pins:List (Addr × Obj)) (s:Shared) (σ:St) (H:Hp) (x:V) (v:Value) (Q:VK),Inv X pins σ H s->bF x v->r x H Q →
  wpAny (model X.prog X.w) X.A (f v) (EP X pins σ Q) X.xe s
def cn(X:Cx)(f:Value)(r:List V->Hp->VK->Prop):Prop:=
 ∀ (pins:List (Addr × Obj)) (s:Shared) (σ:St) (H:Hp) (xs:List V) (us:List Value) (Q:VK),Inv X pins σ H s->aY xs us->r xs H Q →
  wpAny (model X.prog X.w) X.A (call f us) (EP X pins σ Q) X.xe s
def tOp(r:R2)(ta tb:TE):TE:=λ σ H Q=>ta σ H λ x H1=>tb σ H1 λ y H2=>r x y H2 Q
def tUn(r:V->Hp->VK->Prop)(ta:TE):TE:=λ σ H Q=>ta σ H λ x H1=>r x H1 Q
def rI(C:Int->Int->Prop)(g:Int->Int->V):R2:=λ x y H Q=>∃ i j,x=.int i/\y=.int j/\C i j/\Q (g i j) H
def rI0(g:Int->Int->V):R2:=λ x y H Q=>∃ i j,x=.int i/\y=.int j/\Q (g i j) H
def rU(g:Int->V):V->Hp->VK->Prop:=λ x H Q=>∃ i,x=.int i/\Q (g i) H
section
variable {X:Cx}{a b c:Expr}{ta tb tc:TE}{pos:Pos}
def N4(ha:PE X a ta)(hb:PE X b tb){pins:List (Addr × Obj)}{s:Shared}{σ:St}{H:Hp}{R:V->V->Hp->Prop}(I:Inv X pins σ H s)
  (h:ta σ H λ x H1=>tb σ H1 λ y H2=>R x y H2) {Q:Value->Shared->Prop} {f:Value->Value->Sem Value}
  (hf:∀ v u s2 x y H2,Inv X pins σ H2 s2->bF x v->bF y u->R x y H2->wpAny (model X.prog X.w) X.A (f v u) Q X.xe s2) :
  wpAny (model X.prog X.w) X.A (eval a X.env) (λ v s₁=>wpAny (model X.prog X.w) X.A (eval b X.env) (λ u s₂=>wpAny (model X.prog X.w) X.A (f v u) Q X.xe s₂) X.xe s₁) X.xe s:=by
 refine thn (ha pins s σ H _ I h) λ v s1 ⟨x,H1,I1,r1,q1⟩=>?_;refine thn (hb pins s1 σ H1 _ I1 q1) λ u s2 ⟨y,H2,I2,r2,q2⟩=>?_;exact hf v u s2 x y H2 I2 r1 r2 q2
def fV{op:Operator}{r:R2}(ho:OpR X (binaryOp op) r)(ha:PE X a ta)(hb:PE X b tb):PE X (.BinOp a op b pos) (tOp r ta tb):=by
 intro pins s σ H Q I h;exact wpAny_BinOp (N4 ha hb I h λ v u s2 x y H2 I2 rx ry q=>ho pins s2 σ H2 x y v u Q I2 rx ry q)
def Ob{op:UnaryOp}{r:V->Hp->VK->Prop}(ho:UnR X (unaryOp op) r)(ha:PE X a ta):PE X (.UnaryOp op a pos) (tUn r ta):=by
 intro pins s σ H Q I h;exact UnaryOp_ (thn (ha pins s σ H _ I h) λ v s1 ⟨x,H1,I1,r1,q1⟩=>ho pins s1 σ H1 x v Q I1 r1 q1)
def opI{f:Value->Value->Sem Value}{C:Int->Int->Prop}{g:Int->Int->Int}
  (rule:∀ (i j:Int) (t u:Tok) (s:Shared) (Q:Value->Shared->Prop) (E:Value->Shared->Prop),C i j->Q (.int (g i j) s.toks) { s with toks:=s.toks+1 }->wpAny (model X.prog X.w) X.A (f (.int i t) (.int j u)) Q E s) :
  OpR X f (rI C λ i j=>.int (g i j)):=by
 intro pins s σ H x y v u Q I rx ry h;obtain⟨i,j,rfl,rfl,hc,q⟩:=h;obtain⟨t,rfl⟩:=rx;obtain⟨t',rfl⟩:=ry;exact rule i j t t' s _ _ hc ⟨.int (g i j),H,I.tok _,⟨_,rfl⟩,q⟩
def Pp{f:Value->Value->Sem Value}{g:Int->Int->Int}
  (rule:∀ (i j:Int) (t u:Tok) (s:Shared) (Q:Value->Shared->Prop) (E:Value->Shared->Prop),Q (.int (g i j) s.toks) { s with toks:=s.toks+1 }->wpAny (model X.prog X.w) X.A (f (.int i t) (.int j u)) Q E s) :
  OpR X f (rI0 λ i j=>.int (g i j)):=by
 intro pins s σ H x y v u Q I rx ry h;obtain⟨i,j,rfl,rfl,q⟩:=h;obtain⟨t,rfl⟩:=rx;obtain⟨t',rfl⟩:=ry;exact rule i j t t' s _ _ ⟨.int (g i j),H,I.tok _,⟨_,rfl⟩,q⟩
def M6{f:Value->Value->Sem Value}{g:Int->Int->Bool}
  (rule:∀ (i j:Int) (t u:Tok) (s:Shared) (Q:Value->Shared->Prop) (E:Value->Shared->Prop),Q (.bool (g i j)) s->wpAny (model X.prog X.w) X.A (f (.int i t) (.int j u)) Q E s) :
  OpR X f (rI0 λ i j=>.bl (g i j)):=by
 intro pins s σ H x y v u Q I rx ry h;obtain⟨i,j,rfl,rfl,q⟩:=h;obtain⟨t,rfl⟩:=rx;obtain⟨t',rfl⟩:=ry;exact rule i j t t' s _ _ ⟨.bl (g i j),H,I,rfl,q⟩
def N7(i j:Int):Prop:=0 < j/\j < 1073741824
def N6(i j:Int):Prop:=0<=j/\j<=1000000/\i.natAbs < 2 ^ 64
def kd(i j:Int):Prop:=(-(2 ^ 64) < i/\i < 2 ^ 64)\/(-(2 ^ 64) < j/\j < 2 ^ 64)
def kd.ok{i j:Int}(h:kd i j):IntMulOk i j:=by
 rcases h with ⟨h1,h2⟩|⟨h1,h2⟩
 ·exact .of_left (intBits_le_64 h1 h2)
 ·exact .of_right (intBits_le_64 h1 h2)
def uC:OpR X (binaryOp .Add) (rI0 λ i j=>.int (i+j)):=Pp λ _ _ _ _ _ _ _ q=>add_int q
def Lb:OpR X (binaryOp .Sub) (rI0 λ i j=>.int (i - j)):=Pp λ _ _ _ _ _ _ _ q=>sub_int q
def jG:OpR X (binaryOp .Mult) (rI kd λ i j=>.int (i * j)):=opI λ _ _ _ _ _ _ _ hc q=>mul_int q hc.ok
def HA:OpR X (binaryOp .FloorDiv) (rI N7 λ i j=>.int (i / j)):=opI λ i j _ _ _ _ _ hc q=>by
 have h1:(0:Int) < j:=hc.1;have h2:j < 1073741824:=hc.2;exact floordiv_int (by omega) (by rw [Int.fdiv_eq_ediv_of_nonneg i (by omega)];exact q) (.inl (PyProof.noPylong_small (by omega)))
def kg:OpR X (binaryOp .Mod) (rI (λ _ j=>0 < j) λ i j=>.int (i % j)):=opI λ i j _ _ _ _ _ hc q=>by
 have h1:(0:Int) < j:=hc;exact mod_int' (by omega) (by rw [Int.fmod_eq_emod_of_nonneg i (by omega)];exact q)
def Le:OpR X (binaryOp .Pow) (rI N6 λ i j=>.int (i ^ j.toNat)):=opI λ _ _ _ _ _ _ _ hc q=>pow_int_small hc.1 hc.2.1 hc.2.2 q
def unI{f:Value->Sem Value}{g:Int->Int}
  (rule:∀ (i:Int) (t:Tok) (s:Shared) (Q:Value->Shared->Prop) (E:Value->Shared->Prop),Q (.int (g i) s.toks) { s with toks:=s.toks+1 }->wpAny (model X.prog X.w) X.A (f (.int i t)) Q E s) :
  UnR X f (rU λ i=>.int (g i)):=by
 intro pins s σ H x v Q I rx h;obtain⟨i,rfl,q⟩:=h;obtain⟨t,rfl⟩:=rx;exact rule i t s _ _ ⟨.int (g i),H,I.tok _,⟨_,rfl⟩,q⟩
def KN:UnR X (unaryOp .USub) (rU λ i=>.int (-i)):=unI λ _ _ _ _ _ q=>neg_int q
end
def JW:V->V->Bool
 | .non,.non=>true | .non,.int _=>true | .int _,.non=>true | .non,.bl _=>true | .bl _,.non=>true | .non,.str _=>true | .str _,.non=>true
 | .int _,.int _=>true | .bl _,.bl _=>true | .str _,.str _=>true | .byt _,.byt _=>true
 | .int _,.str _=>true | .str _,.int _=>true | .bl _,.str _=>true | .str _,.bl _=>true
 | _,_=>false
def rEq:R2:=λ x y H Q=>JW x y=true/\Q (.bl (decide (x=y))) H
def rNe:R2:=λ x y H Q=>JW x y=true/\Q (.bl (!decide (x=y))) H
def zh{i j:Int}:decide (V.int i=V.int j)=(i == j):=by
 rw [Sx];simp
def Fz{i j:Bool}:decide (V.bl i=V.bl j)=(i == j):=by
 rw [Sx];simp
def zd{i j:Str}:decide (V.str i=V.str j)=(i == j):=by
 rw [Sx];simp
def zk{i j:Array UInt8}:decide (V.byt i=V.byt j)=(i.toList == j.toList):=by
 rw [Sx];cases i;cases j;simp
section
variable {X:Cx}{a b c:Expr}{ta tb tc:TE}{pos:Pos}
def aT{pins:List (Addr × Obj)}{σ:St}{H:Hp}{s:Shared}{Q:VK}{k k':Bool}(I:Inv X pins σ H s)(q:Q (.bl k) H)(e:k=k'):EP X pins σ Q (.bool k') s:=by
 subst e;exact⟨.bl k,H,I,rfl,q⟩
def Og:OpR X (compareOp .Eq) rEq:=by
 intro pins s σ H x y v u Q I rx ry h;obtain⟨hs,q⟩:=h
 cases x with
 | non=>
  cases rx
  cases y with
  | non=>cases ry;exact PySem.EqNone.eq_none_none (aT I q (by simp))
  | bl j=>cases ry;exact PySem.EqNone.eq_none_bool (aT I q (by simp))
  | int j=>obtain⟨t',rfl⟩:=ry;exact PySem.EqNone.eq_none_int (aT I q (by simp))
  | str j=>obtain⟨t',rfl⟩:=ry;exact PySem.EqNone.eq_none_str (aT I q (by simp))
  | _=>exact absurd (show false=true from hs) QS
 | bl i=>
  cases rx
  cases y with
  | non=>cases ry;exact PySem.EqNone.eq_bool_none (aT I q (by simp))
  | bl j=>cases ry;exact eq_bool (aT I q Fz)
  | str j=>obtain⟨t',rfl⟩:=ry;exact PySem.EqMixed.eq_bool_str (aT I q (by simp))
  | _=>exact absurd (show false=true from hs) QS
 | int i=>
  obtain⟨t,rfl⟩:=rx
  cases y with
  | non=>cases ry;exact PySem.EqNone.eq_int_none (aT I q (by simp))
  | int j=>obtain⟨t',rfl⟩:=ry;exact eq_int (aT I q zh)
  | str j=>obtain⟨t',rfl⟩:=ry;exact PySem.EqMixed.eq_int_str (aT I q (by simp))
  | _=>exact absurd (show false=true from hs) QS
 | str i=>
  obtain⟨t,rfl⟩:=rx
  cases y with
  | non=>cases ry;exact PySem.EqNone.eq_str_none (aT I q (by simp))
  | bl j=>cases ry;exact PySem.EqMixed.eq_str_bool (aT I q (by simp))
  | int j=>obtain⟨t',rfl⟩:=ry;exact PySem.EqMixed.eq_str_int (aT I q (by simp))
  | str j=>obtain⟨t',rfl⟩:=ry;exact eq_str (aT I q zd)
  | _=>exact absurd (show false=true from hs) QS
 | byt i=>
  obtain⟨t,rfl⟩:=rx
  cases y with
  | byt j=>obtain⟨t',rfl⟩:=ry;exact W.eq_bytes (aT I q zk)
  | _=>exact absurd (show false=true from hs) QS
 | _=>cases y<;>exact absurd (show false=true from hs) QS
def Od:OpR X (compareOp .NotEq) rNe:=by
 intro pins s σ H x y v u Q I rx ry h;obtain⟨hs,q⟩:=h
 cases x with
 | non=>
  cases rx
  cases y with
  | non=>cases ry;exact PySem.EqNone.ne_none_none (aT I q (by simp))
  | bl j=>cases ry;exact PySem.EqNone.ne_none_bool (aT I q (by simp))
  | int j=>obtain⟨t',rfl⟩:=ry;exact PySem.EqNone.ne_none_int (aT I q (by simp))
  | str j=>obtain⟨t',rfl⟩:=ry;exact PySem.EqNone.ne_none_str (aT I q (by simp))
  | _=>exact absurd (show false=true from hs) QS
 | bl i=>
  cases rx
  cases y with
  | non=>cases ry;exact PySem.EqNone.ne_bool_none (aT I q (by simp))
  | bl j=>cases ry;exact ne_bool (aT I q (RS not Fz))
  | str j=>obtain⟨t',rfl⟩:=ry;exact PySem.EqMixed.ne_bool_str (aT I q (by simp))
  | _=>exact absurd (show false=true from hs) QS
 | int i=>
  obtain⟨t,rfl⟩:=rx
  cases y with
  | non=>cases ry;exact PySem.EqNone.ne_int_none (aT I q (by simp))
  | int j=>obtain⟨t',rfl⟩:=ry;exact ne_int (aT I q (RS not zh))
  | str j=>obtain⟨t',rfl⟩:=ry;exact PySem.EqMixed.ne_int_str (aT I q (by simp))
  | _=>exact absurd (show false=true from hs) QS
 | str i=>
  obtain⟨t,rfl⟩:=rx
  cases y with
  | non=>cases ry;exact PySem.EqNone.ne_str_none (aT I q (by simp))
  | bl j=>cases ry;exact PySem.EqMixed.ne_str_bool (aT I q (by simp))
  | int j=>obtain⟨t',rfl⟩:=ry;exact PySem.EqMixed.ne_str_int (aT I q (by simp))
  | str j=>obtain⟨t',rfl⟩:=ry;exact ne_str (aT I q (RS not zd))
  | _=>exact absurd (show false=true from hs) QS
 | byt i=>
  obtain⟨t,rfl⟩:=rx
  cases y with
  | byt j=>obtain⟨t',rfl⟩:=ry;exact W.ne_bytes (aT I q (RS not zk))
  | _=>exact absurd (show false=true from hs) QS
 | _=>cases y<;>exact absurd (show false=true from hs) QS
def Kj:OpR X (compareOp .Lt) (rI0 λ i j=>.bl (decide (i < j))):=M6 λ _ _ _ _ _ _ _ q=>lt_int q
def Oe:OpR X (compareOp .LtE) (rI0 λ i j=>.bl (decide (i<=j))):=M6 λ _ _ _ _ _ _ _ q=>le_int q
def Kk:OpR X (compareOp .Gt) (rI0 λ i j=>.bl (decide (j < i))):=M6 λ _ _ _ _ _ _ _ q=>gt_int q
def Of:OpR X (compareOp .GtE) (rI0 λ i j=>.bl (decide (j<=i))):=M6 λ _ _ _ _ _ _ _ q=>ge_int q
def Lh:OpR X (compareOp .Is) (λ x y H Q=>y=.non/\Q (.bl (decide (x=.non))) H):=by
 intro pins s σ H x y v u Q I rx ry h;obtain⟨rfl,q⟩:=h;cases ry;refine is_none_gen (aT I q ?_)
 cases x<;>first
  | (cases rx;rfl)
  | (obtain⟨t,rfl⟩:=rx;rfl)
def Hx:OpR X (compareOp .IsNot) (λ x y H Q=>y=.non/\Q (.bl (!decide (x=.non))) H):=by
 intro pins s σ H x y v u Q I rx ry h;obtain⟨rfl,q⟩:=h;cases ry;refine isnot_none_gen (aT I q ?_)
 cases x<;>first
  | (cases rx;rfl)
  | (obtain⟨t,rfl⟩:=rx;rfl)
def OpR.or{f:Value->Value->Sem Value}{r r':R2}(h:OpR X f r)(h':OpR X f r'):OpR X f (λ x y H Q=>r x y H Q\/r' x y H Q):=by
 intro pins s σ H x y v u Q I rx ry q
 rcases q with q|q
 ·exact h pins s σ H x y v u Q I rx ry q
 ·exact h' pins s σ H x y v u Q I rx ry q
def au(b:Expr){op:CmpOp}(h:op ≠ .In:=by decide)(h2:op ≠ .NotIn:=by decide):behindInMarks op b=false:=by
 have e1:(op == CmpOp.In)=false:=by cases op<;>first|rfl|exact absurd rfl h
 have e2:(op == CmpOp.NotIn)=false:=by cases op<;>first|rfl|exact absurd rfl h2
 cases b<;>simp [behindInMarks,e1,e2]
def Hr{op:CmpOp}{r:R2}(ho:OpR X (compareOp op) r)(ha:PE X a ta)(hb:PE X b tb)(hm:behindInMarks op b=false):PE X (.Compare a [op] [b] pos) (tOp r ta tb):=by
 intro pins s σ H Q I h;exact wpAny_Compare1 (N4 ha hb I h λ v u s2 x y H2 I2 rx ry q=>ho pins s2 σ H2 x y v u Q I2 rx ry q) hm
def Cb(t:TE):TT:=λ σ H Q=>t σ H λ x H'=>∃ k,x=.bl k/\Q k H'
def sP{op:CmpOp}{r:R2}(ho:OpR X (compareOp op) r)(ha:PE X a ta)(hb:PE X b tb)(hm:behindInMarks op b=false):PT X (.Compare a [op] [b] pos) (Cb (tOp r ta tb)):=by
 intro pins s σ H Q I h
 refine wpAny_isTrue_Compare1 (thn (ha pins s σ H _ I h) λ v s1 ⟨x,H1,I1,r1,q1⟩=>thn (hb pins s1 σ H1 _ I1 q1) λ u s2 ⟨y,H2,I2,r2,q2⟩=>
  thn (ho pins s2 σ H2 x y v u _ I2 r1 r2 q2) λ c s3 ⟨z,H3,I3,r3,k,e,q3⟩=>?_) hm
 subst e;cases r3;exact RZ ⟨H3,I3,q3⟩
def xH(r r':R2)(ta tb tc:TE):TE:=λ σ H Q=>ta σ H λ x H1=>tb σ H1 λ y H2=>r x y H2 λ z H3=>∃ k,z=.bl k /\
 (if k=true then tc σ H3 λ w' H4=>r' y w' H4 Q else Q (.bl false) H3)
def Dr{op aS:CmpOp}{r r':R2}(ho:OpR X (compareOp op) r)(aX:OpR X (compareOp aS) r')(ha:PE X a ta)(hb:PE X b tb)(hc:PE X c tc)
  (hm:lastMarks [op,aS] [b,c]=false:=by with_unfolding_all rfl):PE X (.Compare a [op,aS] [b,c] pos) (xH r r' ta tb tc):=by
 intro pins s σ H Q I h
 refine Compare_chain (thn (ha pins s σ H _ I h) λ v s1 ⟨x,H1,I1,r1,q1⟩=>chain_link (thn (hb pins s1 σ H1 _ I1 q1) λ u s2 ⟨y,H2,I2,r2,q2⟩=>
  thn (ho pins s2 σ H2 x y v u _ I2 r1 r2 q2) λ d s3 ⟨z,H3,I3,r3,k,e,q3⟩=>?_)) hm
 subst e;cases r3;refine RZ ?_
 cases k with
 | false=>exact ite_ff ⟨.bl false,H3,I3,rfl,q3⟩
 | true=>exact ite_tt (chain_last (thn (hc pins s3 σ H3 _ I3 q3) λ w' s4 ⟨z',H4,I4,r4,q4⟩=>aX pins s4 σ H4 y z' u w' Q I4 r2 r4 q4))
def Dg{op aS:CmpOp}{r r':R2}(ho:OpR X (compareOp op) r)(aX:OpR X (compareOp aS) r')(ha:PE X a ta)(hb:PE X b tb)(hc:PE X c tc)
  (hm:lastMarks [op,aS] [b,c]=false:=by with_unfolding_all rfl):PT X (.Compare a [op,aS] [b,c] pos) (Cb (xH r r' ta tb tc)):=by
 intro pins s σ H Q I h
 refine isTrue_chain (thn (ha pins s σ H _ I h) λ v s1 ⟨x,H1,I1,r1,q1⟩=>test_link (thn (hb pins s1 σ H1 _ I1 q1) λ u s2 ⟨y,H2,I2,r2,q2⟩=>
  thn (ho pins s2 σ H2 x y v u _ I2 r1 r2 q2) λ d s3 ⟨z,H3,I3,r3,k,e,q3⟩=>?_)) hm
 subst e;cases r3;refine RZ ?_
 cases k with
 | false=>
  obtain⟨k',e',q'⟩:=q3;cases e';exact ite_ff ⟨H3,I3,q'⟩
 | true=>
  refine ite_tt (test_last (thn (hc pins s3 σ H3 _ I3 q3) λ w' s4 ⟨z',H4,I4,r4,q4⟩=>thn (aX pins s4 σ H4 y z' u w' _ I4 r2 r4 q4) λ d' s5 ⟨z2,H5,I5,r5,k2,e2,q5⟩=>?_));subst e2;cases r5;exact RZ ⟨H5,I5,q5⟩
def mH:(sizeLine:Nat) < 2 ^ 63:=by rw [sizeLine_eq];decide
def xw{x:V}{us:List Value}(r:aY [x] us):∃ u,us=[u]/\bF x u:=by
 cases r with
 | cons r1 r2=>cases r2;exact⟨_,rfl,r1⟩
def FI{x y:V}{us:List Value}(r:aY [x,y] us):∃ u w',us=[u,w']/\bF x u/\bF y w':=by
 cases r with
 | cons r1 r2=>
  cases r2 with
  | cons r3 r4=>cases r4;exact⟨_,_,rfl,r1,r3⟩
def BM(hc:X.calm=true):cn X (.builtin "max") (λ xs H Q=>∃ i j,xs=[.int i,.int j]/\Q (.int (if j > i then j else i)) H):=by
 intro pins s σ H xs us Q I r h;obtain⟨i,j,rfl,q⟩:=h;obtain⟨u,w',rfl,⟨t,rfl⟩,⟨t',rfl⟩⟩:=FI r;refine max_two_ints (I.ok.hd hc) λ h' tk k=>⟨_,H,I.kept k,?_,q⟩
 by_cases hj:j > i
 ·rw [Rc hj,Rc hj];exact⟨_,rfl⟩
 ·rw [Q5 hj,Q5 hj];exact⟨_,rfl⟩
def BK(hc:X.calm=true):cn X (.builtin "min") (λ xs H Q=>∃ i j,xs=[.int i,.int j]/\Q (.int (if j < i then j else i)) H):=by
 intro pins s σ H xs us Q I r h;obtain⟨i,j,rfl,q⟩:=h;obtain⟨u,w',rfl,⟨t,rfl⟩,⟨t',rfl⟩⟩:=FI r;refine min_two_ints (I.ok.hd hc) λ h' tk k=>⟨_,H,I.kept k,?_,q⟩
 by_cases hj:j < i
 ·rw [Rc hj,Rc hj];exact⟨_,rfl⟩
 ·rw [Q5 hj,Q5 hj];exact⟨_,rfl⟩
end
structure FE(h:Heap)(x dx C:Addr)(mA:Str->Option Value):Prop where
 obj:h.get? x=some (W.instObj C dx)
 ns:h.Ns1 dx mA
 ne:dx ≠ x
def Ba{h:Heap}{dx:Addr}{mA:Str->Option Value}(n:h.Ns1 dx mA):∃ od,h.get? dx=some od/\∀ name,W.lookIn name od=some (mA name):=by
 obtain⟨o,es,ep,ho,hd,hk,_,hm⟩:=n;refine⟨o,ho,λ name=>?_⟩;have e:=hm name;unfold nsFind findBy at e;rw [←Array.find?_toList] at e;unfold W.lookIn;rw [hd];dsimp only;split
 ·rename_i y q;rw [q] at e;exact RS some e
 ·rename_i q;rw [q] at e
  have a:es.toList.any (·.refKey)=false:=by
   rw [List.any_eq_false];intro y hy;obtain⟨z,t,aS⟩:=hk y (Array.mem_toList_iff.mp hy);simp [DictEntry.refKey,aS]
  have a':¬ es.toList.any (·.refKey)=true:=by rw [a];exact QS
  rw [Q5 a'];exact RS some e
def FE.look{h:Heap}{x dx C:Addr}{mA:Str->Option Value}(I:FE h x dx C mA):∃ od,W.InstAt h x (W.instObj C dx) C (some od)/\∀ name,W.lookIn name od=some (mA name):=
 let ⟨od,ho,hl⟩:=Ba I.ns
 ⟨od,⟨I.obj,rfl,rfl,ho⟩,hl⟩
section
variable {prog:Program}{w:World}{A:Around}{E:Value->Shared->Prop}{s:Shared}{K:PySem.W.Frag}{x dx C f:Addr}{mA:Str->Option Value}{name:Str}{v:Value}
def Jm{expr:Bool}{Q:Value->Shared->Prop}(X:K.In s.heap)(I:FE s.heap x dx C mA)(hg:W.plainGet K C name=true)(hh:W.hasDictIn K C=true)
  (ha:W.findIn K (.ref C) name=some none) (hv:mA name=some v) (aS:W.handedIn v=true) (h:Q v { s with toks:=s.toks+1 }) :
  wpAny (model prog w) A (getAttr (.ref x) name expr) Q E s:=by
 obtain⟨od,J,hl⟩:=I.look;exact W.get_value X J (W.plainGet_of hg).1 (W.findObj_own hh ha rfl (by rw [hl,hv])) aS h
def Ey{pl:Sem Bool}{Q:Value × List Value->Shared->Prop}(X:K.In s.heap)(I:FE s.heap x dx C mA)(hg:W.plainGet K C name=true)
  (hf:W.findIn K (.ref C) name=some (some (.ref f))) (ht:W.isFn K (.ref f)=true) (hv:mA name=none) (h:Q (.ref f,[.ref x]) s) :
  wpAny (model prog w) A (getMethod (.ref x) name pl) Q E s:=by
 obtain⟨od,J,hl⟩:=I.look;exact W.method_fn X J (W.plainGet_of hg).1 (W.plainGet_of hg).2 hf (UN.mp ht) (by show (W.lookIn name od).map (·.isSome)=some false;rw [hl,hv];rfl) h
def Ha{ns:List Str}{Q:Unit->Shared->Prop}(X:K.In s.heap)(I:FE s.heap x dx C mA)
  (hs:W.findIn K (.ref C) "__setattr__"=some (some (.builtin "object.__setattr__"))) (hp:W.plainOver K C=true) (ht:W.takerIn K C name=some none) (hh:W.hasDictIn K C=true)
  (hw:PySem.Within mA ns) (hsz:ns.length<=sizeLine)
  (h:∀ h',FE h' x dx C (λ y=>if y=name then some v else mA y)->Heap.SameBut dx s.heap h'->Q () { s with heap:=h',toks:=s.toks+2 }) :
  wpAny (model prog w) A (setAttr (.ref x) name v) Q E s:=by
 obtain⟨od,J,hl⟩:=I.look;refine W.set_plain X J hs (W.osa_open (s:={ s with toks:=s.toks+1 }) (r:=none) X J hp ht λ b=>?_);obtain⟨cd,hc,a3⟩:=W.any_some hh;have hx:s.heap.get? x=some ⟨.ref C,some dx,.plain,#[]⟩:=I.obj;refine My (QI (My (My (wpAny_loadPart hx (My (W.Looks.here (s:={ s with toks:=s.toks+1 }) (W.looks_clsIn X hc) ?_))))));rw [a3];refine QI (a:=some dx) (My (QI (My ?_)));refine wpAny_nsSet1 (s:={ s with toks:=s.toks+1 }) I.ns λ h' aS aX=>?_;obtain⟨oD,a7,a8,a4,a5,a6⟩:=aS.count (PySem.Within.cons name v hw);refine My (wpAny_lookBehind a4 (by rw [a5];exact pastItsLine_dict (RT a6 (by rw [Rr];omega))) ?_);exact QI (h _ ⟨(aX.2 _ (QQ I.ne)).trans I.obj,aS,I.ne⟩ aX)
def DB{R:Result->Shared->Prop}{vs:List Value}{kw:List (Str × Value)}(X:K.In s.heap)(hm:W.makesIn K C=true)
  (hi:W.findIn K (.ref C) "__init__"=some (some (.ref f))) (hf:W.typeIn K (.ref f)=some (.type "function"))
  (h:codeAny (model prog w) (A.under (.builtin "type.__call__" ⟨.ref C::vs,kw⟩)) (.call (.ref f) ⟨.ref (s.heap.objs.size+1)::vs,kw⟩) (W.InitBack (s.heap.objs.size+1) R)
   { s with heap:=(s.heap.push W.emptyDict).push (W.instObj C s.heap.objs.size) }) :
  codeAny (model prog w) A (.call (.ref C) ⟨vs,kw⟩) R s:=by
 obtain⟨hh,g,d,t,os⟩:=s;exact W.make_core (W.makes_of X hm) (W.looks_findIn X hi) (λ self=>W.bind_fn X self hf) (.inl rfl) h
end
def fU(f:Str)(v:V):List (Str × V)->List (Str × V)
 | []=>[(f,v)]
 | (g,x)::r=>if g=f then (g,v)::r else (g,x)::fU f v r
def aK(f g:Str)(v:V):∀ fs:List (Str × V),(fU f v fs).lookup g=if g=f then some v else fs.lookup g
 | []=>by
  show List.lookup g [(f,v)]=_
  by_cases h:g=f
  ·have hb:(g == f)=true:=UN.mpr h;simp only [List.lookup,hb,Rc h]
  ·have hb:(g == f)=false:=S3.mpr h;simp only [List.lookup,hb,Q5 h]
 | (k,x)::r=>by
  have ih:=aK f g v r;rw [show fU f v ((k,x)::r)=(if k=f then (k,v)::r else (k,x)::fU f v r) from rfl]
  by_cases hk:k=f
  ·rw [Rc hk]
   by_cases h:g=k
   ·have hb:(g == k)=true:=UN.mpr h;simp only [List.lookup,hb,Rc (h.trans hk)]
   ·have hb:(g == k)=false:=S3.mpr h;simp only [List.lookup,hb,Q5 (λ e:g=f=>h (e.trans hk.symm))]
  ·rw [Q5 hk]
   by_cases h:g=k
   ·have hb:(g == k)=true:=UN.mpr h;simp only [List.lookup,hb,Q5 (λ e:g=f=>hk (h.symm.trans e))]
   ·have hb:(g == k)=false:=S3.mpr h;simp only [List.lookup,hb];exact ih
def kS(f:Str)(v:V):∀ fs:List (Str × V),f∈(fU f v fs).map (·.1)/\∀ g,g∈fs.map (·.1)->g∈(fU f v fs).map (·.1)
 | []=>⟨by simp [fU],λ g h=>by simp at h⟩
 | (k,x)::r=>by
  obtain⟨i1,i2⟩:=kS f v r;rw [show fU f v ((k,x)::r)=(if k=f then (k,v)::r else (k,x)::fU f v r) from rfl]
  by_cases hk:k=f
  ·rw [Rc hk];subst hk;exact⟨by simp,λ g h=>by simpa using h⟩
  ·rw [Q5 hk];refine⟨?_,λ g h=>?_⟩
   ·rw [RQ];exact QM _ i1
   ·rw [RQ] at h ⊢
    rcases Q1.mp h with e|e
    ·exact Q1.mpr (.inl e)
    ·exact QM _ (i2 g e)
def lB(f:Str)(v:V):∀ fs:List (Str × V),(fU f v fs).length<=fs.length+1
 | []=>by simp [fU]
 | (k,x)::r=>by
  have ih:=lB f v r;rw [show fU f v ((k,x)::r)=(if k=f then (k,v)::r else (k,x)::fU f v r) from rfl]
  by_cases hk:k=f
  ·rw [Rc hk,Rr,Rr];omega
  ·rw [Q5 hk,Rr,Rr];omega
def pN.some_of{v:V}{o:Option Value}(r:pN (some v) o):∃ u,o=some u/\bF v u:=by
 cases o with
 | none=>exact(show False from r).elim
 | some u=>exact⟨u,rfl,r⟩
def pN.none_of{o:Option Value}(r:pN none o):o=none:=by
 cases o with
 | none=>rfl
 | some u=>exact(show False from r).elim
def BC{v:V}{u:Value}(r:bF v u):W.handedIn u=true:=by
 cases v with
 | non=>cases (show u=Value.none from r);rfl
 | bl b=>cases (show u=Value.bool b from r);rfl
 | int i=>obtain⟨t,e⟩:=(show ∃ t,u=Value.int i t from r);cases e;rfl
 | str x=>obtain⟨t,e⟩:=(show ∃ t,u=Value.str x t from r);cases e;rfl
 | byt b=>obtain⟨t,e⟩:=(show ∃ t,u=Value.bytes b t from r);cases e;rfl
 | flt b=>obtain⟨t,e⟩:=(show ∃ t,u=Value.float b t from r);cases e;rfl
 | ref a=>cases (show u=Value.ref a from r);rfl
 | ty n=>cases (show u=Value.type n from r);rfl
section
variable {P:Program}{w:World}{H H':Hp}{h h':Heap}{a C dx:Addr}{fs fs':List (Str × V)}
def nR(hok:HOk P w H h)(e:H a=some (.ins C dx fs)):∃ mA,FE h a dx C mA/\(∀ f,pN (fs.lookup f) (mA f))/\PySem.Within mA (fs.map (·.1))/\fs.length<=1000/\H dx=some (.own a):=by
 obtain⟨d,z,ne,ob,mA,n,r,q⟩:=(show cF P w H h a (.ins C dx fs) from hok a _ e);exact⟨mA,⟨ob,n,ne⟩,r,q,z,d⟩
end
structure Cls(K:W.Frag)(C:Addr):Prop where
 pg:W.plainGet K C Str.empty=true
 hd:W.hasDictIn K C=true
 po:W.plainOver K C=true
 sa:W.findIn K (.ref C) "__setattr__"=some (some (.builtin "object.__setattr__"))
def Cls.get{K:W.Frag}{C:Addr}(c:Cls K C)(f:Str):W.plainGet K C f=true:=c.pg
def dt(K:W.Frag)(C:Addr)(f:Str):Prop:=W.findIn K (.ref C) f=some none
def dt.taker{K:W.Frag}{C:Addr}{f:Str}(n:dt K C f):W.takerIn K C f=some none:=by
 unfold W.takerIn;rw [show W.findIn K (.ref C) f=some none from n];rfl
structure rZ(K:W.Frag)(C:Addr)(m:Str)(f:Addr):Prop where
 at_:W.findIn K (.ref C) m=some (some (.ref f))
 fn:W.isFn K (.ref f)=true
 kp:W.keepIn K (.ref f)=true
section
variable {X:Cx}{pins:List (Addr × Obj)}{σ:St}{H:Hp}{s:Shared}{a C dx:Addr}{fs:List (Str × V)}{f:Str}{v:V}{A:Around}{E:Value->Shared->Prop}
def w4{b:Bool}{Q:Value->Shared->Prop}(I:Inv X pins σ H s)(e:H a=some (.ins C dx fs))(c:Cls X.K C)(n:dt X.K C f)(l:fs.lookup f=some v)
  (h:∀ u s',Inv X pins σ H s'->bF v u->Q u s'):wpAny (model X.prog X.w) A (getAttr (.ref a) f b) Q E s:=by
 obtain⟨mA,O,r,_,_,_⟩:=nR I.hok e;obtain⟨u,hu,ru⟩:=pN.some_of (v:=v) (o:=mA f) (by rw [←l];exact r f);exact Jm I.kIn O (c.get f) c.hd n hu (BC ru) (h u _ (I.tok _) ru)
def mX{m:Str}{g:Addr}{pl:Sem Bool}{Q:Value × List Value->Shared->Prop}(I:Inv X pins σ H s)(e:H a=some (.ins C dx fs))(c:Cls X.K C)(k:rZ X.K C m g)(l:fs.lookup m=none)
  (h:Q (.ref g,[.ref a]) s):wpAny (model X.prog X.w) A (getMethod (.ref a) m pl) Q E s:=by
 obtain⟨mA,O,r,_,_,_⟩:=nR I.hok e;have hn:mA m=none:=pN.none_of (by rw [←l];exact r m);exact Ey I.kIn O (c.get m) k.at_ k.fn hn h
def vY{y:V}{u:Value}{Q:Unit->Shared->Prop}(I:Inv X pins σ H s)(e:H a=some (.ins C dx fs))(c:Cls X.K C)(n:dt X.K C f)(hl:fs.length < 1000)(ry:bF y u)
  (h:∀ s',Inv X pins σ (upd H a (.ins C dx (fU f y fs))) s'->Q () s'):wpAny (model X.prog X.w) A (setAttr (.ref a) f u) Q E s:=by
 obtain⟨mA,O,r,wi,_,ho⟩:=nR I.hok e;have hz:(fs.map (·.1)).length<=sizeLine:=by rw [QE,sizeLine_eq];omega
 refine Ha I.kIn O c.sa c.po n.taker c.hd wi hz λ h' O' sb=>h _ ?_;have hd:∃ o,h'.get? dx=some o:=let ⟨o,_,_,e',_⟩:=O'.ns;⟨o,e'⟩;refine I.write (x:=a) (e:=dx) (by rw [e];exact True.intro) (.inr ho) (λ b q hb z=>(sb.2 b hb).trans z) hd ?_;refine⟨by rw [ah O.ne];exact ho,?_,O.ne,O'.obj,_,O'.ns,λ g=>?_,λ g hg=>?_⟩
 ·have:=lB f y fs;omega
 ·show pN ((fU f y fs).lookup g) (if g=f then some u else mA g)
  rw [aK]
  by_cases q:g=f
  ·rw [Rc q,Rc q];exact ry
  ·rw [Q5 q,Q5 q];exact r g
 ·by_cases q:g=f
  ·rw [q];exact(kS f y fs).1
  ·refine(kS f y fs).2 g (wi g λ z=>hg ?_)
   show (if g=f then some u else mA g)=none
   rw [Q5 q];exact z
def Inv.made(I:Inv X pins σ H s):Inv X pins σ (upd (upd H s.heap.objs.size (.own (s.heap.objs.size+1))) (s.heap.objs.size+1) (.ins C s.heap.objs.size []))
  { s with heap:=(s.heap.push W.emptyDict).push (W.instObj C s.heap.objs.size) }:=by
 have e1:(s.heap.push W.emptyDict).get? s.heap.objs.size=some W.emptyDict:=QN s.heap rfl
 have e2:((s.heap.push W.emptyDict).push (W.instObj C s.heap.objs.size)).get? (s.heap.objs.size+1)=some (W.instObj C s.heap.objs.size):=by
  have:=QN (s.heap.push W.emptyDict) (o:=W.instObj C s.heap.objs.size) rfl
  rwa [Ri] at this
 have e3:(s.heap.push W.emptyDict).Ns s.heap.objs.size (λ _=>none):=⟨W.emptyDict,#[],_,e1,rfl,(λ e he=>absurd he (by simp)),λ _=>rfl⟩;have I1:=I.laid (a:=s.heap.objs.size) (o:=.own (s.heap.objs.size+1)) (h':=s.heap.push W.emptyDict) (t':=s.toks) (λ b u q=>QC _ q) (QK _) ⟨_,e1⟩;refine I1.laid (a:=s.heap.objs.size+1) (o:=.ins C s.heap.objs.size []) (t':=s.toks) (λ b u q=>QC _ q) (Nat.le_of_eq (Ri _ _)) ?_;have ne:s.heap.objs.size ≠ s.heap.objs.size+1:=QY (RU _);refine⟨by rw [ah ne,ar],RP _,ne,e2,λ _=>none,(Heap.Ns1.of_empty e3).at λ o q=>QC _ q,λ _=>True.intro,λ y hy=>absurd rfl hy⟩
def JI{prog:Program}{w:World}{env:Env}{e:Expr}{f:Str}{pos:Pos}{s:Shared}{Q:Value->Shared->Prop}(hb:attributeBase e f env (eval e env)=eval e env)
  (h:wpAny (model prog w) A (eval e env) (λ o s₁=>wpAny (model prog w) A (getAttr o f true) Q E s₁) E s):wpAny (model prog w) A (eval (.Attribute e f pos) env) Q E s:=
 Attribute_any_ h (by rw [arm_eval_Attribute,hb])
end
section
variable {X:Cx}{o e value:Expr}{f:Str}{pos pos' tpos:Pos}{ta tv:TE}
end
section
variable {X:Cx}{pins:List (Addr × Obj)}{σ:St}{H:Hp}{s:Shared}{A:Around}{E:Value->Shared->Prop}{Q:Value->Shared->Prop}{c:Value}{b:Bool}
inductive uw (K:PySem.W.Frag) (H:Hp):V->Value->Prop where
 | non:uw K H .non (.type "NoneType")
 | bl (x:Bool):uw K H (.bl x) (.type "bool")
 | int (i:Int):uw K H (.int i) (.type "int")
 | str (x:Str):uw K H (.str x) (.type "str")
 | flt (x:UInt64):uw K H (.flt x) (.type "float")
 | lst {a:Addr} {xs:List V} (e:H a=some (.lst xs)):uw K H (.ref a) (.type "list")
 | frz {a:Addr} {o:Obj} {xs:List V} (e:H a=some (.frz o (.lst xs))):uw K H (.ref a) (.type "list")
 | tup {a:Addr} {xs:List V} (e:H a=some (.tup xs)):uw K H (.ref a) (.type "tuple")
 | dK {a:Addr} {kvs:List (Key × V)} (e:H a=some (.dK kvs)):uw K H (.ref a) (.type "dict")
 | dT {a:Addr} {kvs:List (List Key × V)} (e:H a=some (.dT kvs)):uw K H (.ref a) (.type "dict")
 | ins {a C dx:Addr} {fs:List (Str × V)} (e:H a=some (.ins C dx fs)) (cl:Cls K C) (ha:PySem.W.findIn K (.ref C) "__class__"=some (some (.builtin "object.__class__")))
   (hn:PySem.W.specialIn K (.builtin "object.__class__") "__get__"=some (some (.builtin "getset_descriptor.__get__"))) (htk:PySem.W.takesIn K (.builtin "object.__class__")=some true)
   (hm:PySem.W.mroIn K C (.type "object")=some true):uw K H (.ref a) (.ref C)
def Bz{x:V}{u t:Value}(I:Inv X pins σ H s)(rx:bF x u)(ty:uw X.K H x t)(e:W.kitOne X.K t c=some b)(h:∀ tk,Q (.bool b) { s with toks:=tk }) :
  wpAny (model X.prog X.w) A (call (.builtin "isinstance") [u,c]) Q E s:=by
 cases ty with
 | non=>cases (show u=Value.none from rx);exact Ts W.kitx_none I.kIn True.intro e (λ z=>nomatch z) h
 | bl y=>cases (show u=Value.bool y from rx);exact Ts W.kitx_bool I.kIn True.intro e (λ z=>nomatch z) h
 | int i=>obtain⟨t,q⟩:=(show ∃ t,u=Value.int i t from rx);cases q;exact Ts W.kitx_int I.kIn True.intro e (λ z=>nomatch z) h
 | str y=>obtain⟨t,q⟩:=(show ∃ t,u=Value.str y t from rx);cases q;exact Ts W.kitx_str I.kIn True.intro e (λ z=>nomatch z) h
 | flt y=>obtain⟨t,q⟩:=(show ∃ t,u=Value.float y t from rx);cases q;exact Ts W.kitx_float I.kIn True.intro e (λ z=>nomatch z) h
 | @lst a xs ea=>
  cases (show u=Value.ref a from rx);obtain⟨_,_,n,_,h1⟩:=(show cF X.prog X.w H s.heap a (.lst xs) from I.hok a _ ea);exact Ts W.kitx_list I.kIn ⟨_,h1,rfl⟩ e (λ z=>nomatch z) h
 | @frz a ob xs ea=>
  cases (show u=Value.ref a from rx);obtain⟨_,_,_,n,_,h1⟩:=(show cF X.prog X.w H s.heap a (.frz ob (.lst xs)) from I.hok a _ ea);exact Ts W.kitx_list I.kIn ⟨_,h1,rfl⟩ e (λ z=>nomatch z) h
 | @tup a xs ea=>
  cases (show u=Value.ref a from rx);obtain⟨_,_,_,p⟩:=(show cF X.prog X.w H s.heap a (.tup xs) from I.hok a _ ea);obtain⟨o,h1,h2,_⟩:=p;exact Ts W.kitx_tuple I.kIn ⟨o,h1,h2⟩ e (λ z=>nomatch z) h
 | @dK a kvs ea=>
  cases (show u=Value.ref a from rx);obtain⟨_,_,vs,_,p⟩:=(show cF X.prog X.w H s.heap a (.dK kvs) from I.hok a _ ea);obtain⟨o,es,ep,h1,h2,_⟩:=p;exact Ts W.kitx_dict I.kIn ⟨o,h1,h2.1⟩ e (λ z=>nomatch z) h
 | @dT a kvs ea=>
  cases (show u=Value.ref a from rx);obtain⟨_,_,xs,_,o,es,ep,h1,h2,_⟩:=(show cF X.prog X.w H s.heap a (.dT kvs) from I.hok a _ ea);exact Ts W.kitx_dict I.kIn ⟨o,h1,h2.1⟩ e (λ z=>nomatch z) h
 | @ins a C dx fs ea cl ha hn htk hm=>
  cases (show u=Value.ref a from rx);obtain⟨mA,O,_⟩:=nR I.hok ea;obtain⟨od,J,_⟩:=O.look;exact Ts (W.kitx_own (cl.get _) cl.hd ha hn htk hm) I.kIn J e (λ z=>nomatch z) h
end
structure jN(k:Nat)(A:Around):Prop where
 hd:A.handled=none
 dp:A.depth+3 * k+5 < recursionLimit
 un:A.units+16 * k+200 < cLine
def jN.mono{j k:Nat}{A:Around}(r:jN k A)(h:j<=k):jN j A:=⟨r.hd,by have:=r.dp;omega,by have:=r.un;omega⟩
def jN.deeper{k:Nat}{A:Around}(r:jN (k+1) A)(env:Env):jN k (A.deeper env):=
 ⟨r.hd,by have:=r.dp;show A.depth+1+3 * k+5 < _;omega,by have:=r.un;show A.units+3+16 * k+200 < _;omega⟩
def wz{A:Around}{C:Addr}{us:List Value}{kw:List (Str × Value)}:(A.under (.builtin "type.__call__" ⟨.ref C::us,kw⟩)).depth=A.depth+1:=by
 first|rfl|simp [Around.under,Code.weight,Code.isCreation,Code.isGuard,Code.isCaller,Code.frames,Code.isFrame,guardIds]
def wx{A:Around}{C:Addr}{us:List Value}{kw:List (Str × Value)}:(A.under (.builtin "type.__call__" ⟨.ref C::us,kw⟩)).units=A.units+1:=by
 first|rfl|simp [Around.under,Code.cUnits,Code.frames,Code.isFrame]
def jN.make{k:Nat}{A:Around}(r:jN (k+1) A)(C:Addr)(us:List Value)(kw:List (Str × Value)):jN k (A.under (.builtin "type.__call__" ⟨.ref C::us,kw⟩)):=
 ⟨r.hd,by have:=r.dp;rw [wz];omega,by have:=r.un;rw [wx];omega⟩
def jN.depth{k:Nat}{A:Around}(r:jN k A):A.depth < recursionLimit:=by have:=r.dp;omega
def jN.units{k:Nat}{A:Around}(r:jN k A):A.units+64 < cLine:=by have:=r.un;omega
def JU:TA:=λ _ H Q=>Q [] H
def Cc(ta:TE)(tr:TA):TA:=λ σ H Q=>ta σ H λ x H1=>tr σ H1 λ xs H2=>Q (x::xs) H2
section
variable {X:Cx}{e:Expr}{es:List Expr}{te:TE}{t:TA}{pos:Pos}
def cx:PA X [] JU:=λ _ _ _ _ H Q I h=>TF ⟨[],H,I,.nil,h⟩
def Hv(ha:PE X e te)(hr:PA X es t)(hs:starEach (e::es) X.env=(false,eval e X.env)::starEach es X.env:=by rfl):PA X (e::es) (Cc te t):=by
 intro pos pins s σ H Q I h;rw [hs]
 show wpAny _ _ (spliced ((false,eval e X.env)::backTo pos (starEach es X.env))) _ _ s
 refine SQ (thn (ha pins s σ H _ I h) λ u s1 ⟨x,H1,I1,r1,q1⟩=>?_);exact thn (hr pos pins s1 σ H1 _ I1 q1) λ us s2 ⟨xs,H2,I2,r2,q2⟩=>⟨x::xs,H2,I2,.cons r1 r2,q2⟩
end
abbrev Sp:=List V->Hp->VK->XK->Prop
abbrev CXT:=List Env->Hp->Shared->XK->Value->Shared->Prop
structure E5(P:Program)(w:World)(K:W.Frag)(mg:Str->Option Value)(base:Heap)(A:Around)(outer:List Env)(s:Shared)(H:Hp):Prop where
 frames:A.frames=some outer
 mod:Mod K mg base
 bs:∀ b o,base.get? b=some o->s.heap.get? b=some o/\H b=none
 bsz:base.objs.size<=s.heap.objs.size
 funs:s.heap.FunFrames base outer
 frf:∀ b∈frs outer,H b=none
 hok:HOk P w H s.heap
 bare:AllBare s.gens
def CE(outer:List Env)(P:Program)(w:World)(H:Hp)(s:Shared)(Q:VK)(u:Value)(s':Shared):Prop:=
 ∃ v H',s'.os=s.os/\AllBare s'.gens/\Un (frs outer) [] H H' s.heap s'.heap/\HOk P w H' s'.heap/\bF v u/\Q v H'
def CR(CX:CXT)(outer:List Env)(P:Program)(w:World)(H:Hp)(s:Shared)(Q:VK)(E:XK)(r:Result)(s':Shared):Prop:=
 match r with
 | .ok (.ret u)=>CE outer P w H s Q u s'
 | .ok _=>False
 | .error e=>CX outer H s E e s'
structure bj(P:Program)(w:World)(K:W.Frag)(mg:Str->Option Value)(base:Heap)(CX:CXT)(k:Nat)(f:Addr)(fd:FuncData)(ps:List Str)(sp:Sp):Prop where
 len:∀ vs H Q E,sp vs H Q E->vs.length=ps.length
 run:∀ (A:Around) (outer:List Env) (s:Shared) (H:Hp) (args:Args) (us:List Value) (vs:List V) (Q:VK) (E:XK),jN k A->E5 P w K mg base A outer s H->BindsTo s fd args (ps.zip us)->aY vs us->sp vs H Q E →
  codeAny (model P w) A (.call (.ref f) args) (CR CX outer P w H s Q E) s
def bj.imp{P:Program}{w:World}{K:W.Frag}{mg:Str->Option Value}{base:Heap}{CX:CXT}{k:Nat}{f:Addr}{fd:FuncData}{ps:List Str}{sp aS:Sp}(F:bj P w K mg base CX k f fd ps sp)
  (h:∀ vs H Q E,aS vs H Q E->sp vs H Q E):bj P w K mg base CX k f fd ps aS:=
 ⟨λ vs H Q E q=>F.len vs H Q E (h _ _ _ _ q),λ A outer s H args us vs Q E hr he hb hv hs=>F.run A outer s H args us vs Q E hr he hb hv (h _ _ _ _ hs)⟩
def E5.make{P:Program}{w:World}{K:W.Frag}{mg:Str->Option Value}{base:Heap}{A:Around}{outer:List Env}{s:Shared}{H:Hp}(e:E5 P w K mg base A outer s H)(C:Addr)(us:List Value)(kw:List (Str × Value)) :
  E5 P w K mg base (A.under (.builtin "type.__call__" ⟨.ref C::us,kw⟩)) outer s H:=⟨by first|exact e.frames|(simpa [Around.under,Code.envs,Code.isFrame,pushEnvs] using e.frames),e.mod,e.bs,e.bsz,e.funs,e.frf,e.hok,e.bare⟩
section
variable {X:Cx}{pins:List (Addr × Obj)}{σ:St}{H:Hp}{s s':Shared}
def Inv.env0(I:Inv X pins σ H s):E5 X.prog X.w X.K X.mg X.base X.A X.stack s H:=
 ⟨I.ok.frames,I.ok.mod,I.bs,RT I.ok.bsz I.sz,I.stack,I.stkFree,I.hok,I.bare⟩
def Inv.after{Q:VK}{u:Value}(I:Inv X pins σ H s)(h:CE X.stack X.prog X.w H s Q u s'):EP X pins σ Q u s':=by
 obtain⟨v,H',os,bare,un,hok,r,q⟩:=h;obtain⟨hh,g,d,t,aS⟩:=s';obtain rfl:aS=s.os:=os;exact⟨v,H',I.call (h':=hh) (g':=g) (d':=d) (t':=t) (ch:=[]) un hok bare (λ b z=>absurd z (by simp)),r,q⟩
end
def Ka(sp:Sp)(dvs:List V)(E:XK)(t:TA):TE:=λ σ H Q=>t σ H λ vs H1=>sp (vs++dvs) H1 Q E
def av(K:W.Frag)(fd:FuncData)(ps:List Str)(ds:List Value):Prop:=
 ∀ (s:Shared) (us:List Value),K.In s.heap->(us++ds).length=ps.length->BindsTo s fd ⟨us,[]⟩ (ps.zip (us++ds))
def av.all{K:W.Frag}{fd:FuncData}{ps:List Str}(h:∀ us:List Value,us.length=ps.length->bindArgs fd ⟨us,[]⟩=pure (ps.zip us)):av K fd ps []:=λ s us _ hl=>by
 rw [Tg] at hl ⊢;exact .of_eq (h us hl)
def kh(CX:CXT)(X:Cx)(E:XK):Prop:=∀ (pins:List (Addr × Obj)) (σ:St) (H:Hp) (s:Shared) (e:Value) (s':Shared),Inv X pins σ H s->CX X.stack H s E e s'->X.xe e s'
section
variable {X:Cx}{CX:CXT}{k:Nat}{f C:Addr}{fd:FuncData}{ps:List Str}{sp:Sp}{dvs:List V}{ds:List Value}{E:XK}{x m:Str}{p pos apos:Pos}{e o:Expr}{es:List Expr}{ta:TE}{t:TA}
def yb{pins:List (Addr × Obj)}{σ:St}{H:Hp}{s:Shared}{Q:VK}{us:List Value}{vs:List V}(F:bj X.prog X.w X.K X.mg X.base CX k f fd ps sp)(hr:jN k X.A)(hb:av X.K fd ps ds)(hd:aY dvs ds)(hx:kh CX X E)
  (I:Inv X pins σ H s) (r:aY vs us) (h:sp (vs++dvs) H Q E):wpAny (model X.prog X.w) X.A (call (.ref f) us) (EP X pins σ Q) X.xe s:=by
 have r2:aY (vs++dvs) (us++ds):=r.append hd;have hl:(us++ds).length=ps.length:=by rw [←r2.length];exact F.len _ _ _ _ h
 refine wpAny_call (T8 (F.run X.A X.stack s H ⟨us,[]⟩ (us++ds) (vs++dvs) Q E hr I.env0 (hb s us I.kIn hl) r2 h) λ r s' hq=>?_)
 cases r with
 | error e=>exact hx pins σ H s e s' I hq
 | ok fl=>
  cases fl with
  | ret u=>exact I.after hq
  | next=>exact False.elim hq
  | brk=>exact False.elim hq
  | cont=>exact False.elim hq
def yO(F:bj X.prog X.w X.K X.mg X.base CX k f fd ps sp)(hr:jN k X.A)(hg:Gl X x)(hm:X.mg x=some (.ref f))(hk:W.keepIn X.K (.ref f)=true)(hb:av X.K fd ps ds)(hd:aY dvs ds)(hx:kh CX X E)
  (ha:PA X (e::es) t) (aS:(x == ("__debug__":Str))=false:=by decide) (he:starEach (e::es) X.env=(false,eval e X.env)::starEach es X.env:=by rfl) (aX:(backTo pos (starEach es X.env)).any (·.1)=false:=by rfl) :
  PE X (.Call (.Name x p) (e::es) [] pos) (Ka sp dvs E t):=by
 intro pins s σ H Q I h;refine Su (sT I hg hm ?_ aS);refine W.callWith_K (h₀:=X.base) I.ok.mod.kin hk (thn (ha pos pins s σ H _ I h) λ us s1 ⟨vs,H1,I1,r,q⟩=>⟨I1.kIn,?_⟩) he aX;exact yb F hr hb hd hx I1 r q
structure Mk(K:W.Frag)(C f:Addr):Prop where
 makes:W.makesIn K C=true
 init:W.findIn K (.ref C) "__init__"=some (some (.ref f))
 fn:W.isFn K (.ref f)=true
 kp:W.keepIn K (.ref C)=true
def CT{pins:List (Addr × Obj)}{σ:St}{H:Hp}{s:Shared}{Q:VK}{us:List Value}{vs:List V}(M:Mk X.K C f)(F:bj X.prog X.w X.K X.mg X.base CX k f fd ps sp)(hr:jN (k+1) X.A)(hb:av X.K fd ps ds)(hd:aY dvs ds)
  (hx:kh CX X E) (I:Inv X pins σ H s) (r:aY vs us)
  (h:∀ x dx,H x=none->H dx=none->dx ≠ x->sp (.ref x::(vs++dvs)) (upd (upd H dx (.own x)) x (.ins C dx [])) (λ v H2=>v=.non/\Q (.ref x) H2) E) :
  wpAny (model X.prog X.w) X.A (call (.ref C) us) (EP X pins σ Q) X.xe s:=by
 have hq:=h (s.heap.objs.size+1) s.heap.objs.size (I.hok.fresh (SI _)) (I.hok.fresh (QK _)) (QY (RU _));have I2:=Inv.made (C:=C) I;have r2:aY (V.ref (s.heap.objs.size+1)::(vs++dvs)) (Value.ref (s.heap.objs.size+1)::(us++ds)):=.cons rfl (r.append hd)
 have hl:(Value.ref (s.heap.objs.size+1)::us++ds).length=ps.length:=by
  have e:=r2.length;rw [F.len _ _ _ _ hq] at e;exact e.symm
 refine wpAny_call (DB (f:=f) I.kIn M.makes M.init (UN.mp M.fn) (T8 (F.run _ X.stack _ _ ⟨Value.ref (s.heap.objs.size+1)::us,[]⟩ (Value.ref (s.heap.objs.size+1)::(us++ds)) _ _ E (hr.make C us [])
  (I2.env0.make C us []) (hb _ (Value.ref (s.heap.objs.size+1)::us) I2.kIn hl) r2 hq) λ r s' aS=>?_))
 cases r with
 | error e=>exact hx pins σ _ _ e s' I2 aS
 | ok fl=>
  cases fl with
  | ret u=>
   obtain⟨v,H',I3,rv,ev,q3⟩:=I2.after aS;subst ev;exact⟨rv,⟨V.ref (s.heap.objs.size+1),H',I3,rfl,q3⟩⟩
  | next=>exact False.elim aS
  | brk=>exact False.elim aS
  | cont=>exact False.elim aS
end
def PK(X:Cx)(kws:List Keyword)(t:TA):Prop:=
 ∀ (pos:Pos) (pins:List (Addr × Obj)) (s:Shared) (σ:St) (H:Hp) (Q:List V->Hp->Prop),Inv X pins σ H s->t σ H Q->wpAny (model X.prog X.w) X.A (evalAll ((backToKw pos (keywordEach kws X.env)).map (·.2))) (AP X pins σ Q) X.xe s
section
variable {X:Cx}{CX:CXT}{k:Nat}{f C:Addr}{fd:FuncData}{ps ks:List Str}{sp:Sp}{E:XK}{x m:Str}{p pos apos kpos:Pos}{e o:Expr}{es:List Expr}{kws:List Keyword}{te ta:TE}{t tk:TA}{nm:Option Str}
def Fj:PK X [] JU:=λ _ _ _ _ H Q I h=>wpAny_evalAll_nil ⟨[],H,I,.nil,h⟩
def yJ(ha:PE X e te)(hr:PK X kws t):PK X (⟨nm,e,kpos⟩ :: kws) (Cc te t):=by
 intro pos pins s σ H Q I h
 show wpAny _ _ (evalAll ((do let v ←eval e X.env;standAt pos;pure v)::(backToKw pos (keywordEach kws X.env)).map (·.2))) _ _ s
 refine wpAny_evalAll_cons (My (thn (ha pins s σ H _ I h) λ u s1 ⟨x,H1,I1,r1,q1⟩=>My (U5 (QI ?_))));exact thn (hr pos pins s1 σ H1 _ I1 q1) λ us s2 ⟨xs,H2,I2,r2,q2⟩=>⟨x::xs,H2,I2,.cons r1 r2,q2⟩
variable {g:List Value->List Value->List Value}{gV:List V->List V->List V}
end
structure ag(N P:List Str)(sc:Scope):Prop where
 kind:sc.kind=.function
 co:sc.isCoroutine=false
 gen:sc.isGenerator=false
 nd:N.Nodup
 pre:N.take P.length=P
 par:∀ x∈P,sc.names.lookup x=some .local\/sc.names.lookup x=some .cell
 nofree:∀ y∈sc.names,y.2 ≠ .free
def qS{kindOf:Str->Option NameKind}{x:Str}:∀ {binds:List (Str × Value)}{m:Str->Option Value},(∀ v,(x,v) ∉ binds)->bindL kindOf binds m x=m x
 | [],_,_=>rfl
 | (n,v)::r,m,h=>by
  unfold bindL;rw [qS λ w hw=>h w (mem_cons_of_mem _ hw)];split
  ·have:x ≠ n:=by rintro rfl;exact h v QP
   simp [this]
  ·rfl
def qU{kindOf:Str->Option NameKind}{x:Str}:∀ {binds:List (Str × Value)}{m:Str->Option Value},(∀ v,(x,v) ∉ binds)->bindC kindOf binds m x=m x
 | [],_,_=>rfl
 | (n,v)::r,m,h=>by
  unfold bindC;rw [qU λ w hw=>h w (mem_cons_of_mem _ hw)];split
  ·rfl
  ·have:x ≠ n:=by rintro rfl;exact h v QP
   simp [this]
def qT{kindOf:Str->Option NameKind}{x:Str}{v:Value}:∀ {P:List Str}{vs:List Value}{i:Nat}{m:Str->Option Value},P.Nodup->P[i]? = some x->vs[i]? = some v->kindOf x=some .local →
  bindL kindOf (P.zip vs) m x=some v
 | [],_,_,_,_,h,_,_=>by simp at h
 | _::_,[],_,_,_,_,h,_=>by simp at h
 | p::P,w::vs,0,m,nd,h1,h2,hk=>by
  simp at h1 h2;subst h1;subst h2
  show bindL kindOf ((p,w)::P.zip vs) m p=_
  unfold bindL;rw [qS λ v hv=>(nodup_cons.mp nd).1 (of_mem_zip hv).1,if_pos hk];simp
 | p::P,w::vs,i+1,m,nd,h1,h2,hk=>by
  show bindL kindOf ((p,w)::P.zip vs) m x=_
  unfold bindL;exact qT (i:=i) (nodup_cons.mp nd).2 (by simpa using h1) (by simpa using h2) hk
def qV{kindOf:Str->Option NameKind}{x:Str}{v:Value}:∀ {P:List Str}{vs:List Value}{i:Nat}{m:Str->Option Value},P.Nodup->P[i]? = some x->vs[i]? = some v->kindOf x ≠ some .local →
  bindC kindOf (P.zip vs) m x=some v
 | [],_,_,_,_,h,_,_=>by simp at h
 | _::_,[],_,_,_,_,h,_=>by simp at h
 | p::P,w::vs,0,m,nd,h1,h2,hk=>by
  simp at h1 h2;subst h1;subst h2
  show bindC kindOf ((p,w)::P.zip vs) m p=_
  unfold bindC;rw [qU λ v hv=>(nodup_cons.mp nd).1 (of_mem_zip hv).1,if_neg hk];simp
 | p::P,w::vs,i+1,m,nd,h1,h2,hk=>by
  show bindC kindOf ((p,w)::P.zip vs) m x=_
  unfold bindC;exact qV (i:=i) (nodup_cons.mp nd).2 (by simpa using h1) (by simpa using h2) hk
def aw(N:List Str)(vs:List V):St:=vs.map some++List.replicate (N.length - vs.length) none
def E3(CX:CXT)(P:Program)(w:World)(K:W.Frag)(mg:Str->Option Value)(base:Heap)(N:List Str)(qual:Str)(scope:Scope)(f:Addr)(cd:Value)(A:Around)(outer:List Env)(s:Shared)(H:Hp)(E:XK):Cx where
 prog:=P
 w:=w
 K:=K
 mg:=mg
 base:=base
 A:=A.deeper (envOfC qual scope s.heap.objs.size f cd)
 N:=N
 s₀:=s
 H₀:=H
 env:=envOfC qual scope s.heap.objs.size f cd
 outer:=outer
 stack:=envOfC qual scope s.heap.objs.size f cd::outer
 ex:=[]
 calm:=true
 fn:=λ _=>true
 pn:=[]
 xe:=λ e s'=>wpAny (model P w) (A.deeper (envOfC qual scope s.heap.objs.size f cd)) (leaving (envOfC qual scope s.heap.objs.size f cd) e) (λ _ aS=>CX outer H s E e aS) (λ e' aS=>CX outer H s E e' aS) s'
def ve{sc:Scope}{n:Nat}{x:Str}(h:sc.names.lookup x=some .cell):∃ c,(cellsFrom n sc.names []).lookup x=some c:=by
 have q:=W.cellsFrom_some sc.names n [] (.inl h);exact S8.mp q
def BA{CX:CXT}{P:Program}{w:World}{K:W.Frag}{mg:Str->Option Value}{base:Heap}{N ps:List Str}{qual:Str}{scope:Scope}{f:Addr}{cd:Value}{A:Around}{outer:List Env}{s s1:Shared}{H:Hp}{E:XK}{us:List Value}{vs:List V}
  (S:ag N ps scope) (hd:A.handled=none) (e0:E5 P w K mg base A outer s H) (hl:vs.length=ps.length) (r:aY vs us)
  (x:InCallC s s.heap.objs.size (bindL (envOfC qual scope s.heap.objs.size f cd).kindOf (ps.zip us) λ _=>none) (cellsFrom (s.heap.objs.size+1) scope.names []) (bindC (envOfC qual scope s.heap.objs.size f cd).kindOf (ps.zip us) λ _=>none) s1) :
  Inv (E3 CX P w K mg base N qual scope f cd A outer s H E) [] (aw N vs) H s1:=by
 have a3:ps.length<=N.length:=by have:=RS List.length S.pre;rw [Rf] at this;omega
 obtain⟨h1,tk,rfl,hk⟩:=x.done;have aS:∀ b:Addr,b ∉ (E3 CX P w K mg base N qual scope f cd A outer s H E).ex:=λ b z=>absurd (show b∈([]:List Addr) from z) (by simp)
 refine⟨⟨e0.mod,S.kind,rfl,rfl,QK _,λ y z c h1 h2=>?_,λ y hy=>?_,λ y c _ h=>?_,λ _=>hd,Around.frames_deeper e0.frames,.inr ⟨rfl,rfl⟩,λ b z=>absurd z (aS b),e0.bs,e0.bsz,λ b _ _=>aS b,λ b z=>absurd z (aS b),e0.funs,e0.frf⟩,
  rfl,e0.bare,Un.kept hk,⟨_,x.toInCall.ns,λ i y v h1 h2 h3=>?_⟩,λ y c h=>⟨_,x.cell y c h⟩,e0.hok.fresh (QK _),λ y c h=>?_,λ p hp=>absurd (show p∈([]:List (Addr × Obj)) from hp) (by simp),e0.hok.kept hk,?_⟩
 ·exact name_of_addr x.apart (S4 h1) (S4 h2)
 ·have hy:scope.names.lookup y=some .cell\/scope.names.lookup y=some .free:=hy
  rcases hy with hy|hy
  ·exact ve hy
  ·exact absurd rfl (S.nofree _ (S4 hy))
 ·exact Tt (x.above y c (S4 h))
 ·have hi:i < vs.length:=by
   unfold aw at h2
   by_cases hi:i < vs.length
   ·exact hi
   ·rw [Rn (by simpa using hi)] at h2;rw [Td] at h2
    split at h2<;>cases h2
  have ha:vs[i]? = some v:=by
   unfold aw at h2;rw [getElem?_append_left (by simpa using hi),getElem?_map] at h2
   cases e:vs[i]? with
   | none=>rw [e] at h2;cases h2
   | some a=>rw [e] at h2;cases h2;rfl
  obtain⟨u,hu,rv⟩:=r.get ha
  have hp:ps[i]? = some y:=by
   rw [←S.pre,List.getElem?_take_of_lt (by omega)];exact h1
  have aX:ps.Nodup:=by rw [←S.pre];exact S.nd.sublist (List.take_sublist _ _)
  refine⟨u,rv,?_⟩
  rcases S.par y (QV hp) with k|k
  ·exact .inl ⟨k,qT aX hp hu k⟩
  ·obtain⟨c,e⟩:=ve (n:=s.heap.objs.size+1) k;refine .inr ⟨.inl k,c,e,?_⟩;have q:=x.cell y c e;rw [qV aX hp hu (by show scope.names.lookup y ≠ _;rw [k];decide)] at q;exact q
 ·exact e0.hok.fresh (Tt (x.above y c (S4 h)))
 ·unfold aw
  show _=N.length
  rw [QX,QE,R7];omega
def KG{CX:CXT}{P:Program}{w:World}{K:W.Frag}{mg:Str->Option Value}{base:Heap}{k:Nat}{f:Addr}{name qual:Str}{params:Arguments}{body:List Stmt}{scope:Scope}{dV kV doc pm cdv ct oc:Value}{an od:Option Addr}
  {osl:Array (Option Value)} {N ps:List Str} {sp:Sp} (lk:K.lookup f=some ⟨oc,od,.func (W.fnOf name qual params body scope dV kV doc pm an cdv ct),osl⟩) (a4:W.codeIn K cdv qual=true) (S:ag N ps scope)
  (len:∀ vs H Q E,sp vs H Q E->vs.length=ps.length)
  (aS:∀ (A:Around) (outer:List Env) (s:Shared) (H:Hp) (vs:List V) (Q:VK) (E:XK),jN k (A.deeper (envOfC qual scope s.heap.objs.size f cdv))->sp vs H Q E →
   ∃ t,PSs (E3 CX P w K mg base N qual scope f cdv A outer s H E) body t/\t { nx:=λ _ H'=>Q .non H',rt:=Q } (aw N vs) H) :
  bj P w K mg base CX (k+1) f (W.fnOf name qual params body scope dV kV doc pm an cdv ct) ps sp:=by
 refine⟨len,λ A outer s H args us vs Q E hr e0 hb r a3=>?_⟩;have hl:=len _ _ _ _ a3;have KX:K.In s.heap:=e0.mod.kin.keeps λ b o e=>(e0.bs b o e).1;have lim:s.heap.NoLimit:=e0.mod.nolimit.keeps λ b o e=>(e0.bs b o e).1
 have aX:∀ y∈ps.zip us,scope.names.lookup y.1=some .local\/(scope.names.lookup y.1=some .cell/\((cellsFrom (s.heap.objs.size+1) scope.names []).lookup y.1).isSome=true):=λ ⟨n,v⟩ hy=>by
  rcases S.par n (SF hy).1 with q|q
  ·exact .inl q
  ·exact .inr ⟨q,W.cellsFrom_some _ _ _ (.inl q)⟩
 refine codeAny_call_function hr.depth (KX _ _ lk) rfl S.co S.gen rfl (W.codeRec_of KX a4) (hb _ _ _ _ ?_);refine wpAny_newFunctionEnv_cells S.kind aX λ env he s1 x=>?_;subst he;refine⟨lim.keeps x.toInCall.keep,codeAny_func ?_⟩;obtain⟨t,ht,hq⟩:=aS A outer s H vs Q E (hr.deeper _) a3;have I:Inv (E3 CX P w K mg base N qual scope f cdv A outer s H E) [] (aw N vs) H s1:=BA S hr.hd e0 hl r x;refine Ui (ht [] s1 (aw N vs) H _ I hq) (λ fl s' hs=>?_) λ e s' hs=>hs
 have fin:∀ {σ':St} {H':Hp} {v:V} {u:Value},Inv (E3 CX P w K mg base N qual scope f cdv A outer s H E) [] σ' H' s'->bF v u->Q v H'->CE outer P w H s Q u s':=
  λ {σ' H' v u} J rv q=>⟨v,H',J.os,J.bare,J.base,J.hok,rv,q⟩
 cases fl with
 | ret u=>
  obtain⟨v,σ',H',J,rv,q⟩:=hs;exact fin J rv q
 | next=>
  obtain⟨σ',H',J,q⟩:=hs;exact fin (v:=V.non) (u:=Value.none) J rfl q
 | brk=>
  obtain⟨_,_,_,q⟩:=hs;exact False.elim q
 | cont=>
  obtain⟨_,_,_,q⟩:=hs;exact False.elim q
section
variable {X:Cx}{x:Str}{p pos:Pos}{e:Expr}{es:List Expr}{t:TA}{id T:String}{r:List V->Hp->VK->Prop}
def tCB(r:List V->Hp->VK->Prop)(t:TA):TE:=λ σ H Q=>t σ H λ vs H1=>r vs H1 Q
def jY(hc:cn X (.builtin id) r)(hg:Gl X x)(hm:X.mg x=none)(hv:bootBuiltins x=some (.builtin id))(ha:PA X (e::es) t)(hn:x ≠ "__name__":=by decide)(aS:(x == ("__debug__":Str))=false:=by decide)
  (he:starEach (e::es) X.env=(false,eval e X.env)::starEach es X.env:=by rfl) (aX:(backTo pos (starEach es X.env)).any (·.1)=false:=by rfl):PE X (.Call (.Name x p) (e::es) [] pos) (tCB r t):=by
 intro pins s σ H Q I h;refine Su (eV I hg hm hv ?_ hn aS);exact PyProof.Rows.callWith_builtin1 (thn (ha pos pins s σ H _ I h) λ us s1 ⟨vs,H1,I1,r1,q1⟩=>hc pins s1 σ H1 vs us Q I1 r1 q1) he aX
def Ao(hc:cn X (.type T) r)(hg:Gl X x)(hm:X.mg x=none)(hv:bootBuiltins x=some (.type T))(ha:PA X (e::es) t)(hn:x ≠ "__name__":=by decide)(aS:(x == ("__debug__":Str))=false:=by decide)
  (he:starEach (e::es) X.env=(false,eval e X.env)::starEach es X.env:=by rfl) (aX:(backTo pos (starEach es X.env)).any (·.1)=false:=by rfl):PE X (.Call (.Name x p) (e::es) [] pos) (tCB r t):=by
 intro pins s σ H Q I h;refine Su (eV I hg hm hv ?_ hn aS);exact Rl (thn (ha pos pins s σ H _ I h) λ us s1 ⟨vs,H1,I1,r1,q1⟩=>hc pins s1 σ H1 vs us Q I1 r1 q1) he aX
end
end L2
namespace HT
open PySem PyProof.Rows
section
open PySem.SeqAt
open PySem.AutoSeq1 (wpAny_loadPart')
open PySem.MeetsSeq PySem.MeetsSeq2 PySem.MeetsSeq3
end
section
variable {prog:Program}{w:World}{A:Around}{E:Value->Shared->Prop}{s:Shared}
def cat_tup{t b:Addr}{vs ws:List Value}{Q:Value->Shared->Prop}(ht:IsTup s.heap t vs.toArray)(hb:IsTup s.heap b ws.toArray)(hv:vs ≠ [])
  (h1:ws=[]->Q (.ref t) s) (h2:ws ≠ []->Q (.ref s.heap.objs.size) { s with heap:=s.heap.push { cls:=.type "tuple",data:=.seq (vs++ws).toArray } })
  (hsz:vs.length+ws.length<=sizeLine):wpAny (model prog w) A (binaryOp .Add (.ref t) (.ref b)) Q E s:=by
 obtain⟨⟨cls,dd,data,sl⟩,ho,hc,n,hd⟩:=id ht;obtain⟨⟨a5,aX,data2,a3⟩,aS,a4,n2,hd2⟩:=id hb;simp only at hc hd a4 hd2;subst hc hd a4 hd2;have e:vs.toArray++ws.toArray=(vs++ws).toArray:=by simp
 by_cases hw:ws=[]
 ·exact concat_meets ⟨_,ho,rfl⟩ ⟨_,aS,rfl⟩ noFill_tuple_add seq_tuple_add Uh T6 (T4 _ _)
   (tuple_addW1 t b vs.toArray ws.toArray n n2 dd aX sl a3 (by simpa using hv) (by simp [hw])) ⟨ho,aS,h1 hw⟩
 ·refine concat_meets ⟨_,ho,rfl⟩ ⟨_,aS,rfl⟩ noFill_tuple_add seq_tuple_add Uh T6 (T4 _ _)
   (tuple_addW2 t b vs.toArray ws.toArray n n2 dd aX sl a3 (by simpa using hv) (by simpa using hw) (by rw [Q7,Q7];exact hsz)) ⟨ho,aS,?_⟩
  rw [e];exact h2 hw
def sIx(n d:Nat):Option Int->Nat
 | none=>d
 | some v=>if v < 0 then (v+(n:Int)).toNat else min v.toNat n
def sIx_none(n d:Nat):sIx n d none=d:=rfl
def sIx_nat(n d k:Nat):sIx n d (some (k:Int))=min k n:=by
 show (if (k:Int) < 0 then ((k:Int)+(n:Int)).toNat else min (k:Int).toNat n)=min k n
 rw [Q5 (by omega),QO]
def KW(n d:Nat)(hd:d<=n)(o:Option Int):sIx n d o<=n:=by
 cases o with
 | none=>exact hd
 | some v=>
  show (if v < 0 then (v+(n:Int)).toNat else min v.toNat n)<=n
  by_cases hv:v < 0
  ·rw [Rc hv];omega
  ·rw [Q5 hv];exact Nat.min_le_right _ _
def zq(v:Int)(n d:Nat):(if v < 0 then max (v+(n:Int)) 0 else min v (n:Int))=((sIx n d (some v):Nat):Int):=by
 show (if v < 0 then max (v+(n:Int)) 0 else min v (n:Int))=(((if v < 0 then (v+(n:Int)).toNat else min v.toNat n):Nat):Int)
 by_cases hv:v < 0
 ·simp only [Rc hv];omega
 ·simp only [Q5 hv];omega
def xt(lo hi:Option Int)(n:Nat):Builtin.Slice.sliceAdjust lo hi 1 (n:Int)=(((sIx n 0 lo:Nat):Int),((sIx n n hi:Nat):Int)):=by
 have h1:¬ ((1:Int) < 0):=by omega
 unfold Builtin.Slice.sliceAdjust;simp only [h1,if_false];refine Prod.ext ?_ ?_
 ·cases lo with
  | none=>rfl
  | some v=>exact zq v n 0
 ·cases hi with
  | none=>rfl
  | some v=>exact zq v n n
def v9(i j:Nat):Builtin.Slice.slicePlaces (i:Int) (j:Int) 1=j - i:=by
 unfold Builtin.Slice.slicePlaces;have h1:(1:Int) > 0:=by omega
 simp only [h1,Tv,Int.ediv_one]
 split<;>omega
def mN{v:Value}{o:Option Int}{Q:Option Int->Shared->Prop}(p:IsPart v o)(h:Q o s):wpAny (model prog w) A (Builtin.Slice.slicePartIndex v) Q E s:=by
 cases p with
 | none=>exact slicePart_none h
 | int i t=>exact slicePart_int h
def jP{sl:Addr}{vl vu:Value}{lo hi:Option Int}{n:Nat}{Q:Int × Int × Nat->Shared->Prop}(hs:s.heap.IsSliceOf sl vl vu .none)(pl:IsPart vl lo)(pu:IsPart vu hi)
  (h:Q (((sIx n 0 lo:Nat):Int),1,sIx n n hi - sIx n 0 lo) s):wpAny (model prog w) A (Builtin.Slice.sliceApplied (.ref sl) (pure (n:Int))) Q E s:=by
 obtain⟨os,aS,a3,aX⟩:=id hs;unfold Builtin.Slice.sliceApplied Builtin.Slice.sliceFields;refine wpAny_bind (wpAny_bind (wpAny_field aS aX (x:=vl) rfl (wpAny_bind (wpAny_field aS aX (x:=vu) rfl (wpAny_bind (wpAny_field aS aX (x:=.none) rfl (wpAny_pure ?_)))))));refine wpAny_bind (slicePart_none ?_)
 show wpAny _ _ (if ((1:Int) == 0)=true then _ else _) _ _ s
 rw [Q5 (by decide)];refine My (mN pl (My (mN pu (My (QI ?_)))))
 show wpAny _ _ (match Builtin.Slice.sliceAdjust lo hi 1 (n:Int) with|(lo,hi)=>pure (lo,(1:Int),Builtin.Slice.slicePlaces lo hi 1)) _ _ s
 rw [xt lo hi n]
 show wpAny _ _ (pure (((sIx n 0 lo:Nat):Int),(1:Int),Builtin.Slice.slicePlaces ((sIx n 0 lo:Nat):Int) ((sIx n n hi:Nat):Int) 1)) _ _ s
 rw [v9];exact QI h
def Dh(xs:Array Value)(i k:Nat):((List.range k).filterMap λ (m:Nat)=>xs[((i:Int)+(m:Int) * 1).toNat]?).toArray=((xs.toList.drop i).take k).toArray:=by
 have e:(λ (m:Nat)=>xs[((i:Int)+(m:Int) * 1).toNat]?)=λ m=>xs[i+m]?:=by
  funext m;have:((i:Int)+(m:Int) * 1).toNat=i+m:=by omega
  rw [this]
 rw [e];have:=pick_run xs i k;rw [List.filterMap_map] at this;have e2:((λ x=>xs[x]?) ∘ λ x=>i+x)=λ m=>xs[i+m]?:=rfl;rw [e2] at this;rw [this]
def getItem_tuple_cut{t sl:Addr}{items:Array Value}{vl vu:Value}{lo hi:Option Int}{Q:Value->Shared->Prop}(ht:IsTup s.heap t items)(hs:s.heap.IsSliceOf sl vl vu .none)(pl:IsPart vl lo)(pu:IsPart vu hi)
  (hw:¬ (sIx items.size 0 lo=0/\sIx items.size items.size hi=items.size))
  (h:Q (.ref s.heap.objs.size) { s with heap:=s.heap.push { cls:=.type "tuple",data:=.seq ((items.toList.drop (sIx items.size 0 lo)).take (sIx items.size items.size hi - sIx items.size 0 lo)).toArray } })
  (hsz:items.size<=sizeLine):wpAny (model prog w) A (getItem (.ref t) (.ref sl)) Q E s:=by
 have aS:sizeOk (.seq ((items.toList.drop (sIx items.size 0 lo)).take (sIx items.size items.size hi - sIx items.size 0 lo)).toArray):=by
  show ((items.toList.drop (sIx items.size 0 lo)).take (sIx items.size items.size hi - sIx items.size 0 lo)).toArray.size<=sizeLine
  rw [Q7,Rf,SD,TN];omega
 have hj:sIx items.size items.size hi<=items.size:=KW _ _ (Nat.le_refl _) hi;obtain⟨os,aX,a3,a6⟩:=id hs;have a4:s.TypeIs (.ref sl) "slice":=⟨os,aX,a3⟩;unfold getItem
 try with_reducible refine R5 ?_
 first|refine My (QI ?_)|skip
 refine My (wpAny_sequenceKey ht.typeIs (by decide) ?_)
 refine My (RI (name:=Str.ofString "__getitem__") ht.typeIs Tj
  (Sg Tj ht.typeIs entry_tuple_getitem ?_ (args_tuple_getitem _ _)))
 show wpAny _ _ (Builtin.Tuple.tupleItemsOf (.ref t) >>= _) _ _ s
 refine My (tupleItemsOf_ ht ?_);refine My (wpAny_typeOf a4 ?_);rw [Rc (by decide)];refine My (jP hs pl pu ?_)
 have a5:¬ ((((sIx items.size 0 lo:Nat):Int) == 0 && (1:Int) == 1 && (sIx items.size items.size hi - sIx items.size 0 lo) == items.size)=true):=by
  intro q;rw [Tw,Tw] at q;have q1:((sIx items.size 0 lo:Nat):Int)=0:=eq_of_beq q.1.1;have q2:sIx items.size items.size hi - sIx items.size 0 lo=items.size:=eq_of_beq q.2;exact hw ⟨by omega,by omega⟩
 show wpAny _ _ (if (((sIx items.size 0 lo:Nat):Int) == 0 && (1:Int) == 1 && (sIx items.size items.size hi - sIx items.size 0 lo) == items.size)=true then _ else _) _ _ s
 rw [Q5 a5,Dh]
 first
  | exact My (m:=Builtin.Tuple.tupleExact _) (Se (QI ⟨_,rfl,QI h⟩) aS)
  | exact My (m:=Builtin.Tuple.tupleExact _) (Se (My (QI (QI ⟨_,rfl,QI h⟩))) aS)
  | exact My (My (m:=Builtin.Tuple.tupleExact _) (Se (QI (QI ⟨_,rfl,QI h⟩)) aS))
  | exact My (My (m:=Builtin.Tuple.tupleExact _) (Se (QI ⟨_,rfl,QI h⟩) aS))
end
end HT
namespace L2
open PySem PySem.Spec PyProof.Rows
abbrev TO:=St->Hp->(Option Int->Hp->Prop)->Prop
def PO(X:Cx)(e:Option Expr)(t:TO):Prop:=
 ∀ (pins:List (Addr × Obj)) (s:Shared) (σ:St) (H:Hp) (Q:Option Int->Hp->Prop),Inv X pins σ H s->t σ H Q →
  wpAny (model X.prog X.w) X.A (evalPart e X.env) (λ u s'=>∃ o H',Inv X pins σ H' s'/\IsPart u o/\Q o H') X.xe s
def yA:TO:=λ _ H Q=>Q none H
def J5(t:TE):TO:=λ σ H Q=>t σ H λ x H1=>∃ i,x=.int i/\Q (some i) H1
def mW{ns:List Int}:∀ {us:List Value},aY (ns.map V.int) us->IntsAre us ns:=by
 induction ns with
 | nil=>intro us r;rw [map_nil] at r;cases r;exact .nil
 | cons n ns ih=>
  intro us r;rw [RQ] at r
  cases r with
  | cons r1 r2=>
   obtain⟨t,e⟩:=r1;subst e;exact .cons n t (ih r2)
section
variable {X:Cx}{e:Expr}{te:TE}{lo hi:Option Expr}{tl th:TO}{pos p2:Pos}
def df:PO X none yA:=by
 intro pins s σ H Q I h;rw [evalPart_none];exact QI ⟨none,H,I,.none,h⟩
def Hj(h:PE X e te):PO X (some e) (J5 te):=by
 intro pins s σ H Q I hw;rw [evalPart_some];refine thn (h pins s σ H _ I hw) λ u s1 ⟨x,H1,I1,r1,q1⟩=>?_;obtain⟨i,rfl,q⟩:=q1;obtain⟨t,rfl⟩:=r1;exact⟨some i,H1,I1,.int i t,q⟩
def SlR(X:Cx)(r:V->Option Int->Option Int->Hp->VK->Prop):Prop:=
 ∀ (pins:List (Addr × Obj)) (s:Shared) (σ:St) (H:Hp) (x:V) (v vl vu:Value) (lo hi:Option Int) (sl:Addr) (Q:VK),Inv X pins σ H s->bF x v->s.heap.IsSliceOf sl vl vu .none->IsPart vl lo->IsPart vu hi->r x lo hi H Q →
  ∃ T id,typeLookup (.type T) "__getitem__"=pure (some (.builtin id))/\s.TypeIs v T/\wpAny (model X.prog X.w) X.A (getItem v (.ref sl)) (EP X pins σ Q) X.xe s
def tSl(r:V->Option Int->Option Int->Hp->VK->Prop)(te:TE)(tl th:TO):TE:=λ σ H Q=>te σ H λ x H1=>tl σ H1 λ l H2=>th σ H2 λ u H3=>r x l u H3 Q
def Dj{r:V->Option Int->Option Int->Hp->VK->Prop}(hr:SlR X r)(he:PE X e te)(hl:PO X lo tl)(hu:PO X hi th):PE X (.Subscript e (.Slice lo hi none p2) pos) (tSl r te tl th):=by
 intro pins s σ H Q I h;refine Subscript_ (thn (he pins s σ H _ I h) λ v s1 ⟨x,H1,I1,r1,q1⟩=>?_);refine wpAny_Slice (thn (hl pins s1 σ H1 _ I1 q1) λ vl s2 ⟨l,H2,I2,pl,q2⟩=>thn (hu pins s2 σ H2 _ I2 q2) λ vu s3 ⟨u,H3,I3,pu,q3⟩=>?_);rw [evalPart_none];refine QI ?_;have I4:Inv X pins σ H3 { s3 with heap:=s3.heap.push { cls:=.type "slice",data:=.fields #[vl,vu,.none] } }:=I3.kept (t':=s3.toks) λ b ob q=>QC _ q;obtain⟨T,id,hT,ht,hg⟩:=hr pins { s3 with heap:=s3.heap.push { cls:=.type "slice",data:=.fields #[vl,vu,.none] } } σ H3 x v vl vu l u s3.heap.objs.size Q I4 r1 (Heap.IsSliceOf.new ..) pl pu q3
 show wpAny (model X.prog X.w) X.A (subscriptTail e (.Slice lo hi none p2) v (.ref s3.heap.objs.size)) (EP X pins σ Q) X.xe { s3 with heap:=s3.heap.push { cls:=.type "slice",data:=.fields #[vl,vu,.none] } }
 exact tail_any (ops:=[.ref s3.heap.objs.size,v]) ht hT hg (by with_unfolding_all rfl)
def mB(xs:List V)(lo hi:Option Int):List V:=(xs.drop (HT.sIx xs.length 0 lo)).take (HT.sIx xs.length xs.length hi - HT.sIx xs.length 0 lo)
def lD(xs:List V)(lo hi:Option Int):(mB xs lo hi).length<=xs.length:=by
 unfold mB;rw [length_take,length_drop];omega
def Qe(K:W.Frag):V->Option Int->Option Int->Hp->VK->Prop:=λ x lo hi H Q=>∃ a xs,x=.ref a/\SqT K H a xs /\
 ¬ (HT.sIx xs.length 0 lo=0/\HT.sIx xs.length xs.length hi=xs.length)/\∀ p,H p=none->Q (.ref p) (upd H p (.tup (mB xs lo hi)))
def KU:SlR X (Qe X.K):=by
 intro pins s σ H x v vl vu lo hi sl Q I rx hs pl pu h;obtain⟨a,xs,rfl,hx,hw,q⟩:=h;cases rx;obtain⟨its,r,ht,hz⟩:=I.tuple hx;have hlen:its.toArray.size=xs.length:=by rw [Q7];exact r.length.symm
 refine⟨"tuple",_,Tj.lookup,ht.typeIs,?_⟩;refine HT.getItem_tuple_cut ht hs pl pu (by rw [hlen];exact hw) ?_ (by rw [hlen];exact hz);rw [hlen];refine⟨.ref s.heap.objs.size,_,I.laid (t':=s.toks) (o:=.tup (mB xs lo hi)) (λ b ob q=>QC _ q) (QK _) ?_,rfl,q _ (I.hok.fresh (QK _))⟩;exact⟨RT (lD xs lo hi) hz,_,(r.drop (HT.sIx xs.length 0 lo)).take (HT.sIx xs.length xs.length hi - HT.sIx xs.length 0 lo),IsTup.new _ _⟩
def N9(K:W.Frag):R2:=λ x y H Q=>∃ a b xs ys,x=.ref a/\y=.ref b/\SqT K H a xs/\SqT K H b ys/\xs ≠ []/\xs.length+ys.length<=sizeLine /\
 (ys=[]->Q (.ref a) H)/\(ys ≠ []->∀ p,H p=none->Q (.ref p) (upd H p (.tup (xs++ys))))
def aY.nil_iff{xs:List V}{us:List Value}(r:aY xs us):us=[] ↔ xs=[]:=by
 cases r with
 | nil=>simp
 | cons _ _=>simp
def HB:OpR X (binaryOp .Add) (N9 X.K):=by
 intro pins s σ H x y v u Q I rx ry h;obtain⟨a,b,xs,ys,rfl,rfl,ha,hb,hx,hz,q1,q2⟩:=h;cases rx;cases ry;obtain⟨its,r1,p1,_⟩:=I.tuple ha;obtain⟨aS,r2,p2,_⟩:=I.tuple hb;refine HT.cat_tup p1 p2 (λ z=>hx (r1.nil_iff.mp z)) (λ z=>⟨.ref a,H,I,rfl,q1 (r2.nil_iff.mp z)⟩) (λ z=>?_) (by rw [←r1.length,←r2.length];exact hz);refine⟨.ref s.heap.objs.size,_,I.laid (t':=s.toks) (o:=.tup (xs++ys)) (λ b ob q=>QC _ q) (QK _) ?_,rfl,q2 (λ w=>z (r2.nil_iff.mpr w)) _ (I.hok.fresh (QK _))⟩;exact⟨by rw [QX];exact hz,_,r1.append r2,IsTup.new _ _⟩
end
def ixN(n:Nat)(i:Int):Option Nat:=if 0<=i then (if i < n then some i.toNat else none) else if -(n:Int)<=i then some (i+n).toNat else none
def atI{α:Type}(xs:List α)(i:Int):Option α:=(ixN xs.length i).bind λ j=>xs[j]?
def yT{n:Nat}{i:Int}{j:Nat}(h:ixN n i=some j):seqIndex? i n=some j/\j < n/\-(n:Int)<=i/\i < n:=by
 unfold ixN at h
 by_cases h0:0<=i
 ·rw [Rc h0] at h
  by_cases h1:i < n
  ·rw [Rc h1] at h;have e:i.toNat=j:=Q2 h;exact⟨by rw [seqIndex_of h0 h1,e],by omega,by omega,h1⟩
  ·rw [Q5 h1] at h;cases h
 ·rw [Q5 h0] at h
  by_cases h1:-(n:Int)<=i
  ·rw [Rc h1] at h;have e:(i+n).toNat=j:=Q2 h;exact⟨by rw [seqIndex_neg (by omega) h1,e],by omega,h1,by omega⟩
  ·rw [Q5 h1] at h;cases h
def zD{α:Type}{xs:List α}{i:Int}{v:α}(h:atI xs i=some v):∃ j,seqIndex? i xs.length=some j/\xs[j]? = some v/\j < xs.length/\-(xs.length:Int)<=i/\i < xs.length:=by
 unfold atI at h
 cases e:ixN xs.length i with
 | none=>rw [e] at h;cases h
 | some j=>
  rw [e] at h;obtain⟨h1,h2,h3,h4⟩:=yT e;exact⟨j,h1,h,h2,h3,h4⟩
def cH{α:Type}{xs:List α}{j:Nat}{v:α}(h:xs[j]? = some v):atI xs (j:Int)=some v:=by
 have hj:j < xs.length:=(QD.mp h).1
 have e:ixN xs.length (j:Int)=some j:=by
  unfold ixN;rw [if_pos (by omega),if_pos (by omega)];simp
 unfold atI;rw [e];exact h
def JM(b:Expr):Prop:=∀ o i,subscripted b false o i=operate [o,i] (getItem o i)
def IxR(X:Cx)(r:R2):Prop:=
 ∀ (value slice:Expr) (pins:List (Addr × Obj)) (s:Shared) (σ:St) (H:Hp) (x y:V) (v u:Value) (Q:VK),Inv X pins σ H s->bF x v->bF y u->r x y H Q →
  subscripted slice false v u=operate [v,u] (getItem v u)->wpAny (model X.prog X.w) X.A (subscriptTail value slice v u) (EP X pins σ Q) X.xe s
def MtR(X:Cx)(id:String)(r:V->List V->Hp->VK->Prop):Prop:=
 ∀ (pins:List (Addr × Obj)) (s:Shared) (σ:St) (H:Hp) (x:V) (xs:List V) (v:Value) (us:List Value) (Q:VK),Inv X pins σ H s->bF x v->aY xs us->r x xs H Q →
  wpAny (model X.prog X.w) X.A (call (.builtin id) (v::us)) (EP X pins σ Q) X.xe s
section
variable {X:Cx}{a b:Expr}{ta tb:TE}{pos:Pos}
def IxR.or{r r':R2}(h:IxR X r)(h':IxR X r'):IxR X (λ x y H Q=>r x y H Q\/r' x y H Q):=by
 intro value slice pins s σ H x y v u Q I rx ry q hs
 rcases q with q|q
 ·exact h value slice pins s σ H x y v u Q I rx ry q hs
 ·exact h' value slice pins s σ H x y v u Q I rx ry q hs
def Gd{r:R2}(hr:IxR X r)(ha:PE X a ta)(hb:PE X b tb)(hs:JM b):PE X (.Subscript a b pos) (tOp r ta tb):=by
 intro pins s σ H Q I h;exact Subscript_ (N4 ha hb I h λ v u s2 x y H2 I2 rx ry q=>hr a b pins s2 σ H2 x y v u Q I2 rx ry q (hs _ _))
def Qj(K:W.Frag):R2:=λ x y H Q=>∃ p xs i v,x=.ref p/\y=.int i/\SqL K H p xs/\atI xs i=some v/\Q v H
def Qi(K:W.Frag):R2:=λ x y H Q=>∃ p xs i v,x=.ref p/\y=.int i/\SqT K H p xs/\atI xs i=some v/\Q v H
def sU:IxR X (Qj X.K):=by
 intro value slice pins s σ H x y v u Q I rx ry h hs;obtain⟨p,xs,i,z,rfl,rfl,hq,he,q⟩:=h;cases rx;obtain⟨t,rfl⟩:=ry;obtain⟨its,r,pl,hz⟩:=I.list hq;obtain⟨j,h1,h2,h3,h4,h5⟩:=zD he;obtain⟨w,ew,aS⟩:=r.get h2;have hl:=r.length;have hn:=mH;have fin:EP X pins σ Q w s:=⟨z,H,I,aS,q⟩
 by_cases h0:0<=i
 ·have hj:i.toNat=j:=by
   rw [seqIndex_of h0 h5] at h1;exact Q2 h1
  exact item_listR pl.isList h0 (by omega) (by rw [hj];simpa using ew) fin hs
 ·have hj:(i+(its.toArray.size:Int)).toNat=j:=by
   rw [seqIndex_neg (by omega) h4] at h1;rw [Q7,←hl];exact Q2 h1
  exact subscriptTail_builtinR (x:=w) pl.isList.typeIs slot_list_getitem.lookup
   (wpAny_getItem_list_neg (Q:=λ r s'=>r=w/\EP X pins σ Q r s') pl.isList (by omega) (by rw [Q7]<;>omega) (by omega) (by rw [hj];simpa using ew) ⟨rfl,fin⟩) hs
def MJ:IxR X (Qi X.K):=by
 intro value slice pins s σ H x y v u Q I rx ry h hs;obtain⟨p,xs,i,z,rfl,rfl,hq,he,q⟩:=h;cases rx;obtain⟨t,rfl⟩:=ry;obtain⟨its,r,pl,hz⟩:=I.tuple hq;obtain⟨j,h1,h2,h3,h4,h5⟩:=zD he;obtain⟨w,ew,aS⟩:=r.get h2;have hl:=r.length;have hn:=mH;have fin:EP X pins σ Q w s:=⟨z,H,I,aS,q⟩
 exact subscriptTail_builtinR (x:=w) pl.typeIs slot_tuple_getitem.lookup
  (getItem_tuple (j:=j) (Q:=λ r s'=>r=w/\EP X pins σ Q r s') pl (by omega) (by omega) (by rw [Q7,←hl];exact h1) (by simpa using ew) ⟨rfl,fin⟩) hs
def wu(its:List Value)(n j:Nat)(u:Value):Obj.mapSeq (·.setIfInBounds j u) { cls:=.type "list",data:=.seq its.toArray n }={ cls:=.type "list",data:=.seq (its.set j u).toArray n }:=by
 simp [Obj.mapSeq]
def Inv.lst{pins:List (Addr × Obj)}{σ:St}{H:Hp}{s:Shared}{p:Addr}{xs:List V}(I:Inv X pins σ H s)(h:H p=some (.lst xs)) :
  ∃ (its:List Value) (n:Nat),aY xs its/\s.heap.get? p=some { cls:=.type "list",data:=.seq its.toArray n }/\xs.length<=sizeLine:=by
 obtain⟨z,its,n,r,e⟩:=I.hok p _ h;exact⟨its,n,r,e,z⟩
def Inv.lstUpd{pins:List (Addr × Obj)}{σ:St}{H:Hp}{s:Shared}{p:Addr}{xs ys:List V}{its its':List Value}{n n':Nat}{f:Obj->Obj}(I:Inv X pins σ H s)(h:H p=some (.lst xs))
  (ho:s.heap.get? p=some { cls:=.type "list",data:=.seq its.toArray n }) (hf:f { cls:=.type "list",data:=.seq its.toArray n }={ cls:=.type "list",data:=.seq its'.toArray n' }) (r:aY ys its') (hz:ys.length<=sizeLine) (t:Nat) :
  Inv X pins σ (upd H p (.lst ys)) { s with heap:=s.heap.update p f,toks:=t }:=by
 have e:(s.heap.update p f).get? p=some { cls:=.type "list",data:=.seq its'.toArray n' }:=by
  rw [Rt f ho (by rw [hf]<;>rfl),hf]
 refine I.write (x:=p) (e:=p) (by rw [h];trivial) (.inl rfl) (λ b u hb q=>(Q9 _ _ (QQ hb)).trans q) ⟨_,e⟩ ?_;exact⟨hz,its',n',r,e⟩
def Kf:V->V->V->Hp->(Hp->Prop)->Prop:=λ o i v H Q=>∃ p xs k j,o=.ref p/\i=.int k/\H p=some (.lst xs)/\ixN xs.length k=some j/\Q (upd H p (.lst (xs.set j v)))
def jU:P6 X Kf:=by
 intro pins s σ H o i v ov iv u Q I ro ri rv h;obtain⟨p,xs,k,j,rfl,rfl,hp,hj,q⟩:=h;cases ro;obtain⟨t,rfl⟩:=ri;obtain⟨its,n,r,ho,hz⟩:=I.lst hp;obtain⟨h1,h2,h3,h4⟩:=yT hj;have hl:=r.length;have hn:=mH
 have I':Inv X pins σ (upd H p (.lst (xs.set j v))) { s with heap:=s.heap.update p (Obj.mapSeq (·.setIfInBounds j u)) }:=
  I.lstUpd hp ho (wu its n j u) (r.set rv j) (by rw [SG];exact hz) s.toks
 by_cases h0:0<=k
 ·have hk:k.toNat=j:=by
   rw [seqIndex_of h0 h4] at h1;exact Q2 h1
  exact W.ki_setAt ho h0 (by omega) (by rw [Q7,←hl];exact h4) (by rw [hk];exact⟨_,I',q⟩)
 ·have hk:(k+(its.toArray.size:Int)).toNat=j:=by
   rw [seqIndex_neg (by omega) h3] at h1;rw [Q7,←hl];exact Q2 h1
  exact W.ki_setBack ho (by omega) (by rw [Q7,←hl];exact h3) (by omega) (by rw [hk];exact⟨_,I',q⟩)
def rq(lo hi:Option Int)(n:Nat):(sliceBounds lo hi none n).1=((HT.sIx n 0 lo:Nat):Int)/\(sliceBounds lo hi none n).2.1=((HT.sIx n n hi:Nat):Int)/\(sliceBounds lo hi none n).2.2=1:=by
 refine⟨?_,?_,rfl⟩
 ·cases lo with
  | none=>simp [sliceBounds,HT.sIx]
  | some i=>
   simp only [sliceBounds,HT.sIx,UY,show (1:Int) > 0 by decide,Tv]
   by_cases h:i < 0
   ·simp only [h,Tv]<;>omega
   ·simp only [h,Tq]<;>omega
 ·cases hi with
  | none=>simp [sliceBounds,HT.sIx]
  | some i=>
   simp only [sliceBounds,HT.sIx,UY,show (1:Int) > 0 by decide,Tv]
   by_cases h:i < 0
   ·simp only [h,Tv]<;>omega
   ·simp only [h,Tq]<;>omega
def oZ(its:List Value)(lo hi:Option Int):slicePick its.toArray lo hi none=((its.drop (HT.sIx its.length 0 lo)).take (HT.sIx its.length its.length hi - HT.sIx its.length 0 lo)).toArray:=by
 obtain⟨h1,h2,h3⟩:=rq lo hi its.toArray.size;unfold slicePick;rw [h1,h2,h3]
 simp only [sliceRange_one,pick_run,Q7]<;>rfl
def Qf(K:W.Frag):V->Option Int->Option Int->Hp->VK->Prop:=λ x lo hi H Q=>∃ a xs,x=.ref a/\SqL K H a xs/\∀ p,H p=none->Q (.ref p) (upd H p (.lst (mB xs lo hi)))
def G9:SlR X (Qf X.K):=by
 intro pins s σ H x v vl vu lo hi sl Q I rx hs pl pu h;obtain⟨a,xs,rfl,hx,q⟩:=h;cases rx;obtain⟨its,r,ht,hz⟩:=I.list hx;have hlen:=r.length;refine⟨"list",_,slot_list_getitem.lookup,ht.isList.typeIs,?_⟩;refine wpAny_getItem_list_slice ht.isList hs pl pu .none (by simp) ?_ (by rw [Q7]<;>omega);rw [oZ,←hlen];refine⟨.ref s.heap.objs.size,_,I.laid (t':=s.toks) (o:=.lst (mB xs lo hi)) (λ b ob q=>QC _ q) (QK _) ?_,rfl,q _ (I.hok.fresh (QK _))⟩;exact⟨RT (lD xs lo hi) hz,_,0,(r.drop (HT.sIx xs.length 0 lo)).take (HT.sIx xs.length xs.length hi - HT.sIx xs.length 0 lo),QN _ rfl⟩
def iD:V->Bool
 | .non=>true
 | .bl _=>true
 | .int _=>true
 | .str _=>true
 | _=>false
def eqV:V->V->Bool
 | .non,.non=>true
 | .bl a,.bl b=>a == b
 | .bl a,.int b=>(if a then 1 else 0) == b
 | .int a,.bl b=>a == (if b then 1 else 0)
 | .int a,.int b=>a == b
 | .str a,.str b=>a == b
 | _,_=>false
def MN{A:Around}{s:Shared}{y x:V}{u v:Value}(ry:bF y u)(rx:bF x v)(fy:iD y=true)(fx:iD x=true):SeqAt.EqAt A s u v (eqV y x):=by
 cases y with
 | non=>
  cases ry
  cases x with
  | non=>cases rx;exact SeqAt.EqAt.same _
  | bl b=>cases rx;exact SeqAt.EqAt.none_bool b
  | int b=>obtain⟨t,rfl⟩:=rx;exact SeqAt.EqAt.none_int b t
  | str b=>obtain⟨t,rfl⟩:=rx;exact SeqAt.EqAt.none_str b t
  | _=>exact absurd (show false=true from fx) QS
 | bl a=>
  cases ry
  cases x with
  | non=>cases rx;exact SeqAt.EqAt.bool_none a
  | bl b=>cases rx;exact SeqAt.EqAt.bool_bool a b
  | int b=>obtain⟨t,rfl⟩:=rx;exact SeqAt.EqAt.bool_int a b t
  | str b=>obtain⟨t,rfl⟩:=rx;exact SeqAt.EqAt.bool_str a b t
  | _=>exact absurd (show false=true from fx) QS
 | int a=>
  obtain⟨t',rfl⟩:=ry
  cases x with
  | non=>cases rx;exact SeqAt.EqAt.int_none a t'
  | bl b=>cases rx;exact SeqAt.EqAt.int_bool a t' b
  | int b=>obtain⟨t,rfl⟩:=rx;exact SeqAt.EqAt.int_int a t' b t
  | str b=>obtain⟨t,rfl⟩:=rx;exact SeqAt.EqAt.int_str a t' b t
  | _=>exact absurd (show false=true from fx) QS
 | str a=>
  obtain⟨t',rfl⟩:=ry
  cases x with
  | non=>cases rx;exact SeqAt.EqAt.str_none a t'
  | bl b=>cases rx;exact SeqAt.EqAt.str_bool a t' b
  | int b=>obtain⟨t,rfl⟩:=rx;exact SeqAt.EqAt.str_int a t' b t
  | str b=>obtain⟨t,rfl⟩:=rx;exact SeqAt.EqAt.str_str a t' b t
  | _=>exact absurd (show false=true from fx) QS
 | _=>exact absurd (show false=true from fy) QS
def eqU(x:V)(u:Value):Bool:=match u with
 | .none=>eqV .non x
 | .bool b=>eqV (.bl b) x
 | .int i _=>eqV (.int i) x
 | .str z _=>eqV (.str z) x
 | _=>false
def Fy{x y:V}{u:Value}(r:bF y u)(f:iD y=true):eqU x u=eqV y x:=by
 cases y with
 | non=>cases r;rfl
 | bl b=>cases r;rfl
 | int i=>obtain⟨t,rfl⟩:=r;rfl
 | str z=>obtain⟨t,rfl⟩:=r;rfl
 | _=>exact absurd (show false=true from f) QS
def kA{x:V}:∀ {xs:List V}{us:List Value},aY xs us->xs.all iD=true->us.any (eqU x)=xs.any λ y=>eqV y x
 | _,_,.nil,_=>rfl
 | y::xs,u::us,.cons r t,f=>by
  rw [UI,Tw] at f;rw [any_cons,any_cons,Fy r f.1,kA t f.2]
def iI{A:Around}{s:Shared}{x:V}{v:Value}(rx:bF x v)(fx:iD x=true):∀ {xs:List V}{us:List Value},aY xs us->xs.all iD=true->∀ u∈us,SeqAt.EqAt A s u v (eqU x u)
 | _,_,.nil,_=>λ u hu=>by cases hu
 | y::xs,u::us,.cons r t,f=>λ u' hu=>by
  rw [UI,Tw] at f
  rcases Q1.mp hu with rfl|hu
  ·rw [Fy r f.1];exact MN r rx f.1 fx
  ·exact iI rx fx t f.2 u' hu
def inV(x:V)(xs:List V):Bool:=xs.any λ y=>eqV y x
def rIn(K:W.Frag)(neg:Bool):R2:=λ x y H Q=>∃ p xs,y=.ref p/\(SqL K H p xs\/SqT K H p xs)/\iD x=true/\xs.all iD=true/\Q (.bl (if neg then !inV x xs else inV x xs)) H
def Au:OpR X (compareOp .In) (rIn X.K false):=by
 intro pins s σ H x y v u Q I rx ry h;obtain⟨p,xs,rfl,hq,fx,fs,q⟩:=h;cases ry
 rcases hq with hq|hq
 ·obtain⟨its,r,pl,hz⟩:=I.list hq;refine SeqAt.in_listAt (eqU x) pl.isList (λ w hw=>iI rx fx r fs w (by simpa using hw)) ⟨.bl _,H,I,rfl,?_⟩;rw [show its.toArray.any (eqU x)=its.any (eqU x) by simp,kA r fs];exact q
 ·obtain⟨its,r,pl,hz⟩:=I.tuple hq;refine SeqAt.in_tupleAt (eqU x) pl (λ w hw=>iI rx fx r fs w (by simpa using hw)) ⟨.bl _,H,I,rfl,?_⟩;rw [show its.toArray.any (eqU x)=its.any (eqU x) by simp,kA r fs];exact q
def rA:OpR X (compareOp .NotIn) (rIn X.K true):=by
 intro pins s σ H x y v u Q I rx ry h;obtain⟨p,xs,rfl,hq,fx,fs,q⟩:=h;cases ry
 rcases hq with hq|hq
 ·obtain⟨its,r,pl,hz⟩:=I.list hq;refine SeqAt.notIn_listAt (eqU x) pl.isList (λ w hw=>iI rx fx r fs w (by simpa using hw)) ⟨.bl _,H,I,rfl,?_⟩;rw [show its.toArray.any (eqU x)=its.any (eqU x) by simp,kA r fs];exact q
 ·obtain⟨its,r,pl,hz⟩:=I.tuple hq;refine SeqAt.notIn_tupleAt (eqU x) pl (λ w hw=>iI rx fx r fs w (by simpa using hw)) ⟨.bl _,H,I,rfl,?_⟩;rw [show its.toArray.any (eqU x)=its.any (eqU x) by simp,kA r fs];exact q
def eu:cn X (.builtin "len") (λ xs H Q=>∃ p ys,xs=[.ref p]/\(SqL X.K H p ys\/SqT X.K H p ys)/\Q (.int ys.length) H):=by
 intro pins s σ H xs us Q I r h;obtain⟨p,ys,rfl,hq,q⟩:=h;obtain⟨u,rfl,rx⟩:=xw r;cases rx;have hn:=mH
 rcases hq with hq|hq
 ·obtain⟨its,r',pl,hz⟩:=I.list hq;have hlen:=r'.length;exact Calls.call_len_list pl.isList (by simp only [Q7]<;>omega) ⟨.int ys.length,H,I.tok _,⟨s.toks+1,by rw [Q7,hlen]⟩,q⟩
 ·obtain⟨its,r',pl,hz⟩:=I.tuple hq;have hlen:=r'.length;exact len_tuple pl (by simp only [Q7]<;>omega) ⟨.int ys.length,H,I.tok _,⟨s.toks+1,by rw [Q7,hlen]⟩,q⟩
def rO:cn X (.builtin "len") (λ xs H Q=>∃ z,xs=[.str z]/\z.length<=sizeLine/\Q (.int z.length) H):=by
 intro pins s σ H xs us Q I r h;obtain⟨z,rfl,hz,q⟩:=h;obtain⟨u,rfl,t,rfl⟩:=xw r;have hn:=mH;exact len_str (by omega) ⟨.int z.length,H,I.tok _,⟨_,rfl⟩,q⟩
def cn.or{f:Value}{r r':List V->Hp->VK->Prop}(h:cn X f r)(h':cn X f r'):cn X f (λ xs H Q=>r xs H Q\/r' xs H Q):=by
 intro pins s σ H xs us Q I rs q
 rcases q with q|q
 ·exact h pins s σ H xs us Q I rs q
 ·exact h' pins s σ H xs us Q I rs q
def rN:cn X (.type "list") (λ xs H Q=>∃ p ys,xs=[.ref p]/\(SqL X.K H p ys\/SqT X.K H p ys)/\∀ l,H l=none->Q (.ref l) (upd H l (.lst ys))):=by
 intro pins s σ H xs us Q I r h;obtain⟨p,ys,rfl,hq,q⟩:=h;obtain⟨u,rfl,rx⟩:=xw r;cases rx
 have fin:∀ (its:List Value),aY ys its->ys.length<=sizeLine->∀ (h':Heap) (c':Nat),(∀ b o',s.heap.get? b=some o'->h'.get? b=some o') →
   h'.get? s.heap.objs.size=some { cls:=.type "list",dict:=none,data:=.seq its.toArray c',slots:=#[] }->EP X pins σ Q (.ref s.heap.objs.size) { s with heap:=h' }:=λ its r' hz h' c' kp e=>
  ⟨.ref s.heap.objs.size,_,I.laid (t':=s.toks) kp (QK _) (show cF X.prog X.w _ h' _ (.lst ys) from ⟨hz,its,c',r',e⟩),rfl,q _ (I.hok.fresh (QK _))⟩
 rcases hq with hq|hq
 ·obtain⟨its,r',pl,hz⟩:=I.list hq;have hlen:=r'.length;obtain⟨o,ho,hc,n,hd⟩:=pl.isList;exact call_list_seq p (.inl rfl) ho hc hd (λ h' c' kp e=>fin its r' hz h' c' kp e) (by simp only [Q7]<;>omega)
 ·obtain⟨its,r',pl,hz⟩:=I.tuple hq;have hlen:=r'.length;obtain⟨o,ho,hc,n,hd⟩:=pl;exact call_list_seq p (.inr rfl) ho hc hd (λ h' c' kp e=>fin its r' hz h' c' kp e) (by simp only [Q7]<;>omega)
def pJ:cn X (.type "tuple") (λ xs H Q=>∃ p ys,xs=[.ref p]/\((SqL X.K H p ys/\∀ l,H l=none->Q (.ref l) (upd H l (.tup ys)))\/(SqT X.K H p ys/\Q (.ref p) H))):=by
 intro pins s σ H xs us Q I r h;obtain⟨p,ys,rfl,h⟩:=h;obtain⟨u,rfl,rx⟩:=xw r;cases rx
 rcases h with ⟨hq,q⟩|⟨hq,q⟩
 ·obtain⟨its,r',pl,hz⟩:=I.list hq;have hlen:=r'.length;refine call_tuple_list pl.isList (λ h' kp=>?_) (by simp only [Q7]<;>omega);have I1:Inv X pins σ H { s with heap:=h' }:=I.kept (t':=s.toks) kp
  have I2:Inv X pins σ (upd H h'.objs.size (.tup ys)) { s with heap:=h'.push { cls:=.type "tuple",data:=.seq its.toArray } }:=
   I1.laid (t':=s.toks) (λ b o e=>QC _ e) (QK _) (show cF X.prog X.w _ _ _ (.tup ys) from ⟨hz,its,r',IsTup.new _ _⟩)
  exact⟨.ref h'.objs.size,_,I2,rfl,q _ (I1.hok.fresh (QK _))⟩
 ·obtain⟨its,r',pl,hz⟩:=I.tuple hq;exact call_tuple_same pl ⟨.ref p,H,I,rfl,q⟩
def tyV(K:W.Frag)(T:String)(x:V)(H:Hp):Prop:=match x with
 | .str _=>T = "str"
 | .int _=>T = "int"
 | .ref p=>(T = "list" /\ ∃ xs,SqL K H p xs)\/(T = "tuple" /\ ∃ o,K.lookup p=some o/\o.cls=.type "tuple" /\ o.dict=none) \/
   (T = "dict" /\ ((∃ kvs,H p=some (.dK kvs))\/∃ kvs,H p=some (.dT kvs)))\/(T = "set" /\ ∃ S n,H p=some (.set S n))
 | _=>False
def Fb{pins:List (Addr × Obj)}{σ:St}{H:Hp}{s:Shared}{T:String}{x:V}{v:Value}(I:Inv X pins σ H s)(r:bF x v)(ty:tyV X.K T x H) :
  s.TypeIs v T/\∀ a,v=.ref a->∃ ob,s.heap.get? a=some ob/\ob.dict=none:=by
 cases x with
 | str z=>
  obtain⟨t,rfl⟩:=r;cases (show T = "str" from ty);exact⟨typeIs_str s z t,λ _ e=>nomatch e⟩
 | int i=>
  obtain⟨t,rfl⟩:=r;cases (show T = "int" from ty);exact⟨typeIs_int s i t,λ _ e=>nomatch e⟩
 | ref p=>
  cases r
  rcases ty with ⟨rfl,xs,hq⟩|⟨rfl,o,hk,hc,hd⟩|⟨rfl,hk⟩|⟨rfl,S,n,hk⟩
  ·obtain⟨its,_,pl,_⟩:=I.list hq;refine⟨pl.isList.typeIs,λ a e=>?_⟩;cases e;obtain⟨o,n,e,c,hd,_⟩:=pl;exact⟨o,e,hd⟩
  ·refine⟨⟨o,I.kIn p o hk,hc⟩,λ a e=>?_⟩;cases e;exact⟨o,I.kIn _ o hk,hd⟩
  ·have z:∃ o,s.heap.get? p=some o/\o.ExactDict:=by
    rcases hk with ⟨kvs,hk⟩|⟨kvs,hk⟩
    ·obtain⟨_,_,_,_,o,_,_,e,ex,_⟩:=I.hok p _ hk;exact⟨o,e,ex⟩
    ·obtain⟨_,_,_,_,o,_,_,e,ex,_⟩:=I.hok p _ hk;exact⟨o,e,ex⟩
   obtain⟨o,e,ex⟩:=z;refine⟨⟨o,e,ex.1⟩,λ a e2=>?_⟩;cases e2;exact⟨o,e,ex.2.1⟩
  ·obtain⟨o,_,_,_,e,ex,_⟩:=I.hok p _ hk;refine⟨⟨o,e,ex.1⟩,λ a e2=>?_⟩;cases e2;exact⟨o,e,ex.2.1⟩
 | _=>exact False.elim ty
def Pf(K:W.Frag)(T:String)(r:V->List V->Hp->VK->Prop)(to:TE):TE:=λ σ H Q=>to σ H λ x H1=>tyV K T x H1/\r x [] H1 Q
def tBM(K:W.Frag)(T:String)(r:V->List V->Hp->VK->Prop)(to:TE)(t:TA):TE:=λ σ H Q=>to σ H λ x H1=>tyV K T x H1/\t σ H1 λ xs H2=>r x xs H2 Q
variable {o e:Expr}{es:List Expr}{to:TE}{t:TA}{name:Str}{apos cpos:Pos}{T id:String}{r:V->List V->Hp->VK->Prop}
def ye(pa:PlainAttrs T)(slot:Slot T name id)(a3:typeOf (.builtin id)=pure (.type "method_descriptor"))(hm:MtR X id r)(ho:PE X o to)
  (aS:attributeBase o name X.env (eval o X.env)=eval o X.env:=by rfl) (aX:(apos.endLine == cpos.line)=true:=by rfl):PE X (.Call (.Attribute o name apos) [] [] cpos) (Pf X.K T r to):=by
 intro pins s σ H Q I h;refine wpAny_Call_method0_late aS aX (thn (ho pins s σ H _ I h) λ v s1 ⟨x,H1,I1,r1,ty,q1⟩=>?_);obtain⟨h1,h2⟩:=Fb I1 r1 ty;exact⟨T,id,pa,slot,a3,h1,h2,TC rfl (PySem.evalArgs_none (hm pins s1 σ H1 x [] v [] Q I1 r1 .nil q1))⟩
def Oc(pa:PlainAttrs T)(slot:Slot T name id)(a5:typeOf (.builtin id)=pure (.type "method_descriptor"))(hm:MtR X id r)(ho:PE X o to)(ha:PA X (e::es) t)
  (aX:attributeBase o name X.env (eval o X.env)=eval o X.env:=by rfl)
  (a4:((backTo cpos (starEach (e::es) X.env)).all (λ x=>!x.1) && (backToKw cpos (keywordEach [] X.env)).all (λ x=>x.1.isSome)
   && decide ((e::es).length+([]:List Keyword).length+(if ([]:List Keyword).isEmpty then 0 else 1) < 30))=true:=by rfl)
  (a3:(apos.endLine == cpos.line)=true:=by rfl) (hs:starEach (e::es) X.env=(false,eval e X.env)::starEach es X.env:=by rfl) (aS:(backTo cpos (starEach es X.env)).any (·.1)=false:=by rfl) :
  PE X (.Call (.Attribute o name apos) (e::es) [] cpos) (tBM X.K T r to t):=by
 intro pins s σ H Q I h;refine wpAny_Call_method_late aX a4 a3 rfl (thn (ho pins s σ H _ I h) λ v s1 ⟨x,H1,I1,r1,ty,q1⟩=>?_);obtain⟨h1,h2⟩:=Fb I1 r1 ty;refine⟨T,id,pa,slot,a5,h1,h2,?_⟩;have hA:=ha cpos pins s1 σ H1 _ I1 q1;rw [hs] at hA ⊢;refine TC (by show (false || (backTo cpos (starEach es X.env)).any (·.1))=false;rw [aS]<;>rfl) (UR ?_);exact thn hA λ us s2 ⟨vs,H2,I2,r2,q2⟩=>hm pins s2 σ H2 x vs v us Q I2 r1 r2 q2
end
def MtM(X:Cx)(id:String)(r:V->List V->Hp->VK->Prop):Prop:=
 ∀ (pins:List (Addr × Obj)) (s:Shared) (σ:St) (H:Hp) (x:V) (xs:List V) (v:Value) (us:List Value) (Q:VK),Inv X pins σ H s->bF x v->aY xs us->r x xs H Q →
  wpAny (model X.prog X.w) X.A (call (.builtin id) (v::us)) (EP X pins σ Q) X.xe s
def aY.one:∀ {x:V}{us:List Value},aY [x] us->∃ u,us=[u]/\bF x u
 | _,_,.cons r .nil=>⟨_,rfl,r⟩
def aY.zero:∀ {us:List Value},aY [] us->us=[]
 | _,.nil=>rfl
def aY.eraseIdx:∀ {xs:List V}{us:List Value}(i:Nat),aY xs us->aY (xs.eraseIdx i) (us.eraseIdx i)
 | _,_,_,.nil=>.nil
 | _,_,0,.cons _ t=>t
 | _,_,i+1,.cons r t=>.cons r (aY.eraseIdx i t)
def aY.reverse{xs:List V}{us:List Value}(h:aY xs us):aY xs.reverse us.reverse:=by
 induction h with
 | nil=>exact .nil
 | cons r t ih=>rw [List.reverse_cons,List.reverse_cons];exact aY.append ih (.cons r .nil)
def aY.rep{xs:List V}{us:List Value}(h:aY xs us):∀ k:Nat,aY (List.replicate k xs).flatten (List.replicate k us).flatten
 | 0=>.nil
 | k+1=>by
  rw [SE,SE,To,To];exact aY.append h (aY.rep h k)
def qC{α:Type}:∀ (l:List α) (i:Nat),(l.eraseIdx i).length<=l.length
 | [],_=>QK _
 | _::_,0=>SI _
 | _::r,i+1=>Nat.succ_le_succ (qC r i)
def qF(its:List Value):∀ (k:Nat) (acc:List Value),
  List.foldl (λ x1 x2=>x1++x2) acc.toArray (List.replicate k its.toArray)=(acc++(List.replicate k its).flatten).toArray
 | 0,acc=>by simp
 | k+1,acc=>by
  have e:acc.toArray++its.toArray=(acc++its).toArray:=by simp
  have e2:(acc++its)++(List.replicate k its).flatten=acc++(List.replicate (k+1) its).flatten:=by
   rw [SE,To,UP]
  rw [←e2,←qF its k (acc++its),←e,SE,Sq]
section
variable {X:Cx}{pins:List (Addr × Obj)}{σ:St}{H:Hp}{s:Shared}{l b:Addr}{xs ys zs:List V}
def Inv.lset{its its':List Value}{n:Nat}{f:Array Value->Array Value}{t':Nat}(I:Inv X pins σ H s)(hH:H l=some (.lst xs))
  (e:s.heap.get? l=some { cls:=.type "list",data:=.seq its.toArray n }) (hf:f its.toArray=its'.toArray) (hv:aY ys its') (hz:ys.length<=sizeLine) :
  Inv X pins σ (upd H l (.lst ys)) { s with heap:=s.heap.update l (Obj.mapSeq f),toks:=t' }:=by
 have q:=PySem.IsL.update e f;rw [hf] at q;refine I.write (x:=l) (e:=l) (by rw [hH];exact trivial) (.inl rfl) (λ b' u hb hu=>(Q9 s.heap (Obj.mapSeq f) (QQ hb)).trans hu) ⟨_,q⟩ ?_;exact⟨hz,its',_,hv,q⟩
def Inv.lnew{its:List Value}{t':Nat}(I:Inv X pins σ H s)(hv:aY ys its)(hz:ys.length<=sizeLine) :
  Inv X pins σ (upd H s.heap.objs.size (.lst ys)) { s with heap:=s.heap.push { cls:=.type "list",data:=.seq its.toArray },toks:=t' }:=
 I.laid (λ _ _ q=>QC _ q) (QK _) ⟨hz,its,0,hv,QN _ rfl⟩
def Inv.fresh(I:Inv X pins σ H s):H s.heap.objs.size=none:=I.hok.fresh (QK _)
def Inv.lstM(I:Inv X pins σ H s)(hH:H l=some (.lst xs)):xs.length<=sizeLine/\∃ (its:List Value) (n:Nat),aY xs its/\xs.length=its.length/\s.heap.get? l=some { cls:=.type "list",data:=.seq its.toArray n }:=by
 obtain⟨z,its,n,r,e⟩:=I.hok l _ hH;exact⟨z,its,n,r,r.length,e⟩
def uU{n:Nat}(h:n<=sizeLine):Builtin.List.listTooLong n=false:=by
 unfold Builtin.List.listTooLong;exact decide_eq_false (by omega)
end
section
variable {X:Cx}
def yF:V->List V->Hp->VK->Prop:=λ x vs H Q=>∃ l xs y,x=.ref l/\vs=[y]/\H l=some (.lst xs)/\xs.length < sizeLine/\Q .non (upd H l (.lst (xs++[y])))
def b8:MtM X "list.append" yF:=by
 intro pins s σ H x vs v us Q I rx rv h;obtain⟨l,xs,y,rfl,rfl,hH,hz,q⟩:=h;cases rx;obtain⟨u,rfl,ru⟩:=rv.one;obtain⟨z,its,n,r,hl,e⟩:=I.lstM hH;refine UK F.slot_list_append ⟨_,e,rfl⟩ F.entry_list_append (F.args_list_append_2 _ _) (PySem.list_append l its.toArray n u (by rw [Q7];omega)) ⟨e,?_⟩;refine⟨.non,_,I.lset (its':=its++[u]) hH e (by simp) (r.append (.cons ru .nil)) ?_,rfl,q⟩;rw [QX,RN];omega
def yE:V->List V->Hp->VK->Prop:=λ x vs H Q=>∃ l b xs zs,x=.ref l/\vs=[.ref b]/\H l=some (.lst xs)/\H b=some (.lst zs)/\xs.length+zs.length<=sizeLine/\Q .non (upd H l (.lst (xs++zs)))
def iO:MtM X "list.extend" yE:=by
 intro pins s σ H x vs v us Q I rx rv h;obtain⟨l,b,xs,zs,rfl,rfl,hH,hB,hz,q⟩:=h;cases rx;obtain⟨u,rfl,ru⟩:=rv.one;cases ru;obtain⟨z,its,n,r,hl,e⟩:=I.lstM hH;obtain⟨z2,aS,n2,r2,a3,e2⟩:=I.lstM hB;have hsz:its.toArray.size+aS.toArray.size<=sizeLine:=by rw [Q7,Q7];omega
 have aX:¬ (!its.toArray.isEmpty && Builtin.List.listTooLong (its.toArray.size+aS.toArray.size))=true:=by
  rw [uU hsz,Bool.and_false];exact QS
 refine UK F.slot_list_extend ⟨_,e,rfl⟩ F.entry_list_extend (F.args_list_extend_2 _ _)
  (AutoSeq1.list_extend_list_list_0 l its.toArray n b aS.toArray n2 aX (by rw [Q7];omega) (by omega)) ⟨e,e2,?_⟩
 refine⟨.non,_,I.lset (its':=its++aS) hH e (by simp) (r.append r2) ?_,rfl,q⟩;rw [QX];omega
def KY:V->List V->Hp->VK->Prop:=λ x vs H Q=>∃ l xs i k y,x=.ref l/\vs=[.int i]/\H l=some (.lst xs)/\-(2 ^ 63)<=i/\i < 2 ^ 63/\seqIndex? i xs.length=some k/\xs[k]? = some y/\Q y (upd H l (.lst (xs.eraseIdx k)))
def Dy:MtM X "list.pop" KY:=by
 intro pins s σ H x vs v us Q I rx rv h;obtain⟨l,xs,i,k,y,rfl,rfl,hH,h1,h2,hk,hy,q⟩:=h;cases rx;obtain⟨u,rfl,ru⟩:=rv.one;obtain⟨t,rfl⟩:=ru;obtain⟨z,its,n,r,hl,e⟩:=I.lstM hH;obtain⟨w,hw,aS⟩:=r.get hy
 refine UK F.slot_list_pop ⟨_,e,rfl⟩ F.entry_list_pop (F.args_list_pop_2 _ _)
  (MeetsSeq.list_pop_at l its.toArray n i t k w (fitsIndex_both h1 h2) (by rw [Q7,←hl];exact hk) (by rw [←Array.getElem?_toList];exact hw) (by rw [Q7];omega)) ⟨e,?_⟩
 refine⟨y,_,I.lset (its':=its.eraseIdx k) hH e ?_ (r.eraseIdx k) ?_,aS,q⟩
 ·show its.toArray.eraseIdxIfInBounds k=(its.eraseIdx k).toArray
  rw [List.eraseIdxIfInBounds_toArray]
 ·have:=qC xs k;omega
def uP:V->List V->Hp->VK->Prop:=λ x vs H Q=>∃ l xs,x=.ref l/\vs=[]/\H l=some (.lst xs)/\Q .non (upd H l (.lst xs.reverse))
def js:MtM X "list.reverse" uP:=by
 intro pins s σ H x vs v us Q I rx rv h;obtain⟨l,xs,rfl,rfl,hH,q⟩:=h;cases rx;have aS:=rv.zero;subst aS;obtain⟨z,its,n,r,hl,e⟩:=I.lstM hH;refine UK F.slot_list_reverse ⟨_,e,rfl⟩ F.entry_list_reverse (F.args_list_reverse_1 _) (AutoSeq1.list_reverse_list_0 l its.toArray n (by rw [Q7];omega)) ⟨e,?_⟩;refine⟨.non,_,I.lset (its':=its.reverse) hH e (by simp) r.reverse ?_,rfl,q⟩;rw [Uw];omega
def Pl:R2:=λ x y H Q=>∃ l b xs zs,x=.ref l/\y=.ref b/\H l=some (.lst xs)/\H b=some (.lst zs)/\xs.length+zs.length<=sizeLine/\∀ p,H p=none->Q (.ref p) (upd H p (.lst (xs++zs)))
def Lj:OpR X (binaryOp .Add) Pl:=by
 intro pins s σ H x y v u Q I rx ry h;obtain⟨l,b,xs,zs,rfl,rfl,hH,hB,hz,q⟩:=h;cases rx;cases ry;obtain⟨z,its,n,r,hl,e⟩:=I.lstM hH;obtain⟨z2,aS,n2,r2,aX,e2⟩:=I.lstM hB;refine PySem.P.add_list e e2 ?_ (by rw [Q7,Q7];omega);have ea:its.toArray++aS.toArray=(its++aS).toArray:=by simp
 rw [ea];exact⟨.ref _,_,I.lnew (t':=s.toks) (r.append r2) (by rw [QX];omega),rfl,q _ I.fresh⟩
def Qg:R2:=λ x y H Q=>∃ l k xs,x=.ref l/\y=.int k/\H l=some (.lst xs)/\-(2 ^ 63)<=k/\k < 2 ^ 63/\xs.length * k.toNat<=sizeLine /\
 ∀ p,H p=none->Q (.ref p) (upd H p (.lst (List.replicate k.toNat xs).flatten))
def IT{α:Type}(xs:List α)(k:Nat):(List.replicate k xs).flatten.length=k * xs.length:=by
 induction k with
 | zero=>simp
 | succ k ih=>rw [SE,To,QX,ih,Nat.succ_mul,Nat.add_comm]
def Lc:OpR X (binaryOp .Mult) Qg:=by
 intro pins s σ H x y v u Q I rx ry h;obtain⟨l,k,xs,rfl,rfl,hH,h1,h2,hz,q⟩:=h;cases rx;obtain⟨t,rfl⟩:=ry;obtain⟨z,its,n,r,hl,e⟩:=I.lstM hH;have hlen:its.toArray.size * k.toNat<=sizeLine:=by rw [Q7,←hl];exact hz
 have aX:¬ its.toArray.size * k.toNat > (2 ^ 63 - 1) / 8:=by
  have:(sizeLine:Nat)<=(2 ^ 63 - 1) / 8:=by decide
  omega
 have a3:¬ (!Builtin.List.listFitsIndex k)=true:=by
  rw [fitsIndex_both h1 h2];exact QS
 have aS:¬ Builtin.List.listTooLong (its.toArray.size * k.toNat)=true:=by
  rw [uU hlen];exact QS
 have a4:List.foldl (λ x1 x2=>x1++x2) #[] (List.replicate (if its.toArray.isEmpty=true then 0 else k.toNat) its.toArray)=(List.replicate k.toNat its).flatten.toArray:=by
  have f0:∀ m:Nat,List.foldl (λ x1 x2=>x1++x2) #[] (List.replicate m its.toArray)=(List.replicate m its).flatten.toArray:=λ m=>by
   have:=qF its m [];rw [List.nil_append] at this;exact this
  rw [f0]
  cases its with
  | nil=>simp
  | cons a r'=>rw [Q5 (by simp)]
 refine wpAny_binaryOp_repeat_ref (T := "list") (U := "int") (by decide) ⟨_,e,rfl⟩ (λ s'=>typeIs_int s' k t) noFill_list_mul F.fills_int_mul F.slot_int_rmul repeat_list F.slot_int_index.lookup
  (UK F.slot_int_rmul (typeIs_int s k t) F.entry_int_rmul (F.args_int_rmul_2 _ _) (int___rmul___int_list k t l its.toArray n)
   ⟨e,rfl,⟨_,e,rfl⟩,UK F.slot_list_mul ⟨_,e,rfl⟩ F.entry_list_mul (F.args_list_mul_2 _ _) (AutoListH.list___mul___list_int_3 l its.toArray n k t a3 aX aS) ⟨e,?_⟩⟩)
 rw [a4];exact⟨.ref _,_,I.lnew (t':=s.toks) (r.rep k.toNat) (by rw [IT,Nat.mul_comm];exact hz),rfl,q _ I.fresh⟩
end
section
variable {prog:Program}{w:World}{A:Around}{E:Value->Shared->Prop}{s:Shared}
end
section
variable {X:Cx}
end
end L2
namespace Att
open PySem PySem.W PySem.Calls PyProof.Rows
def lQ{P:Params}{h:Heap}:∀ (ns:List Int) (vs:List Value),WellAll P h vs (ns.map WData.int)->IntsAre vs ns:=by
 intro ns
 induction ns with
 | nil=>
  intro vs w;rw [map_nil] at w;cases w;exact .nil
 | cons n ns ih=>
  intro vs w;rw [RQ] at w
  cases w with
  | cons a b=>
   cases a;exact .cons _ _ (ih _ b)
def Ad{l:OpenLaw}{n:Nat}(hn:l.most=some n){P:Params}{h:Heap}{args:List WData}{vals:List Value}
  (aS:l.row.toRowW.claim.pre args=true) (aX:WellAll P h vals args) :
  ∃ a vs ns,vals=[Value.ref a]/\args=[WData.list (ns.map WData.int)]/\h.get? a=some { cls:=.type "list",data:=.seq vs.toArray }/\IntsAre vs ns/\ns.length<=n:=by
 have a3:WShape.hasAll [] args [.list .int]=true:=(pre_splitW aS).1;have hc:l.pre.holds [] { args:=args }=true:=(pre_splitW aS).2;obtain⟨d,r,rfl,h1,h2⟩:=hasAllW_cons a3;obtain rfl:=hasAllW_nil h2;obtain⟨xs,rfl,h3⟩:=hasW_list h1;obtain⟨ns,rfl⟩:=items_int h3
 have hlen:ns.length<=n:=by
  unfold OpenLaw.pre at hc
  have h4:(WTm.not (.lt (.lit (.int (n:Int))) (.len (.arg 0)))).holds [] { args:=[.list (ns.map .int)] }=true:=by
   have h4:=(holds_andW hc).1;rw [hn] at h4;exact h4
  have h5:=condW_of h4 (w_not (w_lt w_lit (w_len_list (w_arg rfl))));rw [QE] at h5;refine UZ λ q=>?_;have q':(n:Int) < ((ns.length:Nat):Int):=by omega
  first
   | (rw [Q4 q'] at h5;exact absurd h5 (by decide))
   | (simp at h5;omega)
 cases aX with
 | cons w1 w2=>
  cases w2
  cases w1 with
  | list ho hall=>exact⟨_,_,ns,rfl,rfl,ho,lQ ns _ hall,hlen⟩
def Ai(l:OpenLaw)(args:List WData):l.row.toRowW.claim.post args (.bool true) args=true:=
 postW_of (r:=l.row.toRowW) (X:=(true == true))
  (show WShape.has [] (.bool true) .bool=true by first|rfl|decide|simp [WShape.has,WShape.arms,WShape.armsAll])
  (show (WTm.eq .res (.lit (.bool true))).value [] { args:=args,res:=some (.bool true),after:=args }=some (.bool (true == true)) from w_eq_bool (w_res rfl) w_lit) rfl
def attach_call{l:OpenLaw}{n:Nat}{q:Program}{loose:List Str}{XP:(Str->Option Value)->Heap->Prop}{YP:World->Heap->Prop}{d:DefRec}
  (hn:l.most=some n) (a3:d.params.defaults=[])
  (call:∀ (w:World) (s₀ s₁:Shared) (mg mb:Str->Option Value) (fa:Addr) (o:Obj) (pm cd doc:Value) (a:Addr) (vs:List Value) (ns:List Int),
   Ground q loose [] XP w s₀ mg mb s₁.heap->YP w s₁.heap →
   s₁.heap.get? fa=some o->o.data=.func (docDef d.name d.params d.body d.scope pm cd doc)->s₁.heap.CodeRec cd d.name->mg d.name=some (.ref fa) →
   s₁.heap.get? a=some { cls:=.type "list",data:=.seq vs.toArray }->IntsAre vs ns->ns.length<=n->s₁.gens=#[] →
   codeAny (model l.prog w) callerA (.call (.ref fa) ⟨[.ref a],[]⟩) (λ r s'=>r=.ok (.ret (.bool true))/\OldK s₁.heap s'.heap/\s'.os=s₁.os/\AllBare s'.gens) s₁) :
  WalkO q loose XP YP l.row.toRowW d [] (λ f vs=>PySem.call f vs):=by
 intro w s₀ s₁ mg mb G Y fa o pm cd doc dV kV ho hd a4 hD a5 hg args vals as aS a7 a8 a6 a9;obtain rfl:dV=.none:=Dflts.none hD a3;obtain rfl:kV=.none:=Dflts.noKw hD;obtain⟨a,vs,ns,rfl,rfl,aX,hints,hlen⟩:=Ad hn aS a6;refine enter_call (T8 (call w s₀ s₁ mg mb fa o pm cd doc a vs ns G Y ho (fd_plain hd) a4 a5 aX hints hlen hg) λ r s' hq=>?_);obtain⟨rfl,h2,h3,h4⟩:=hq;exact⟨.inl ⟨.bool true,.bool true,[],rfl,λ _=>rfl,.bool true,Ai l _,λ _=>⟨List.Pairwise.nil,λ _ hm=>(nomatch hm)⟩⟩,h2,h3,h4⟩
section
variable {prog:Program}{w:World}{A:Around}{E:Value->Shared->Prop}{s:Shared}{K:Frag}
def Qb(h:Heap)(L d:Addr):List (Addr × Obj):=(List.range h.objs.size).filterMap λ a=>if a=L\/a=d then none else (h.get? a).map λ o=>(a,o)
end
end Att
namespace L2
open PySem PySem.Spec PyProof.Rows
def qf:∀ {vs:List Value}{ns:List Int},IntsAre vs ns->aY (ns.map V.int) vs
 | _,_,.nil=>.nil
 | _,_,.cons n t h=>.cons ⟨t,rfl⟩ (qf h)
def N5(H:Hp):Prop:=∀ b,H b=none\/∃ o xs,H b=some (.frz o (.lst xs))
def DU{P:Program}{w:World}{K:W.Frag}{mg mb:Str->Option Value}{CX:CXT}{k:Nat}{fa a:Addr}{fd:FuncData}{x:Str}{sp:Sp}{s₁:Shared}{vs:List Value}{ns:List Int}
  (KX:K.In s₁.heap) (a4:s₁.heap.Ns mainGlobals mg) (hb:s₁.heap.Ns builtinsNs mb) (a9:∀ x:Str,x ≠ "__name__" → mb x=bootBuiltins x) (a5:s₁.heap.NoLimit) (hg:s₁.gens=#[])
  (ha:s₁.heap.get? a=some { cls:=.type "list",data:=.seq vs.toArray }) (hi:IntsAre vs ns) (hl:ns.length<=sizeLine) (hr:jN k callerA)
  (F:∀ base:Heap,K.In base->base.Ns mainGlobals mg->bj P w K mg base CX k fa fd [x] sp) (a3:∀ (s:Shared) (u:Value),BindsTo s fd ⟨[u],[]⟩ [(x,u)])
  (bt:∀ H:Hp,N5 H->SqL K H a (ns.map V.int)->sp [.ref a] H (λ v _=>v=.bl true) λ _ _ _=>False)
  (bS:∀ H e s',CX [] H s₁ (λ _ _ _=>False) e s'->False) :
  codeAny (model P w) callerA (.call (.ref fa) ⟨[.ref a],[]⟩) (λ r s'=>r=.ok (.ret (.bool true))/\OldK s₁.heap s'.heap/\s'.os=s₁.os/\AllBare s'.gens) s₁:=by
 have rv:=qf hi;have a6:=hi.length
 have core:∀ H:Hp,N5 H->SqL K H a (ns.map V.int)->HOk P w H s₁.heap->(∀ b,H b ≠ none->b=a)->(H a ≠ none->K.lookup a=none) →
   codeAny (model P w) callerA (.call (.ref fa) ⟨[.ref a],[]⟩) (λ r s'=>r=.ok (.ret (.bool true))/\OldK s₁.heap s'.heap/\s'.os=s₁.os/\AllBare s'.gens) s₁:=by
  intro H hO hS hok hA hK;have aS:∀ {b:Addr} {o:Obj},s₁.heap.get? b=some o->H b=none->(B9 s₁.heap H).get? b=some o:=λ e n=>Eu e n
  have b1:∀ {b:Addr} {o:Obj} {es:Array DictEntry} {ep:Nat},s₁.heap.get? b=some o->o.data=.dict es ep->H b=none:=λ {b o es ep} e d=>by
   cases q:H b with
   | none=>rfl
   | some u=>
    have e':b=a:=hA b (by rw [q];simp);subst e';rw [ha] at e;cases e;have d':Data.seq vs.toArray _=Data.dict es ep:=d;cases d'
  have aX:∀ {b:Addr} {m:Str->Option Value},s₁.heap.Ns b m->(B9 s₁.heap H).Ns b m:=λ {b m} ⟨o,es,ep,e,d,r⟩=>⟨o,es,ep,aS e (b1 e d),d,r⟩
  have a7:K.In (B9 s₁.heap H):=λ b o e=>aS (KX b o e) (by
   cases q:H b with
   | none=>rfl
   | some u=>
    have e':b=a:=hA b (by rw [q];simp);subst e';rw [hK (by rw [q];simp)] at e;cases e)
  have hM:Mod K mg (B9 s₁.heap H):=⟨a7,aX a4,⟨mb,aX hb,a9⟩,let ⟨mc,h1,h2⟩:=a5;⟨mc,aX h1,h2⟩⟩;have e0:E5 P w K mg (B9 s₁.heap H) callerA [] s₁ H:=⟨rfl,hM,λ b o e=>HD e,Nat.le_of_eq (BB _ _),trivial,λ b hb=>absurd (show b∈([]:List Addr) from hb) (by simp),hok,.of_eq hg⟩;refine T8 ((F _ a7 (aX a4)).run callerA [] s₁ H ⟨[.ref a],[]⟩ [.ref a] [.ref a] _ _ hr e0 (a3 s₁ (.ref a)) (.cons rfl .nil) (bt H hO hS)) λ r s' h=>?_
  cases r with
  | error e=>exact(bS H e s' h).elim
  | ok fl=>
   cases fl with
   | next=>exact False.elim h
   | brk=>exact False.elim h
   | cont=>exact False.elim h
   | ret u=>
    obtain⟨v,H',os,bare,un,a8,r',q⟩:=h;have q':v=.bl true:=q;subst q';obtain rfl:u=Value.bool true:=r';refine⟨rfl,OldK.of_keep λ b o e=>?_,os,bare⟩
    cases q:H b with
    | none=>exact un.keep b o e q (by intro z;exact absurd (show b∈([]:List Addr) from z) (by simp)) (by simp)
    | some u=>
     rcases hO b with z|⟨ob,xs,z⟩
     ·rw [q] at z;cases z
     ·have z2:=un.frzs b ob _ z;obtain⟨e1,_⟩:=hok b _ z;obtain⟨e2,_⟩:=a8 b _ z2;rw [e] at e1;cases e1;exact e2
 cases hk:K.lookup a with
 | some o=>
  have e:=KX a o hk;rw [ha] at e;cases e;refine core (λ _=>none) (λ _=>.inl rfl) (.inr ⟨_,vs.toArray,_,hk,rfl,rfl,rfl,by rw [Q7,a6];exact hl,by simpa using rv⟩) (λ b u z=>by have z':(none:Option HO)=some u:=z;cases z') (λ b z=>absurd rfl z) λ z=>absurd rfl z
 | none=>
  refine core (λ b=>if b=a then some (.frz { cls:=.type "list",data:=.seq vs.toArray } (.lst (ns.map V.int))) else none) (λ b=>?_) (.inl (.inr ⟨{ cls:=.type "list",data:=.seq vs.toArray },Rc rfl⟩)) (λ b u z=>?_) (λ b z=>?_) λ _=>hk
  ·by_cases hb:b=a
   ·exact .inr ⟨_,_,Rc hb⟩
   ·exact .inl (Q5 hb)
  ·by_cases hb:b=a
   ·have z':=(Rc hb).symm.trans z;cases z';subst hb;exact⟨ha,by rw [QE];exact hl,vs,_,rv,ha⟩
   ·have z':=(Q5 hb).symm.trans z;cases z'
  ·by_cases hb:b=a
   ·exact hb
   ·exact absurd (Q5 hb) z
abbrev KOf{K:PySem.W.Frag}{h:Heap}(_:K.In h):PySem.W.Frag:=K
def walk_of{l:W.OpenLaw}{n k:Nat}{q:Program}{loose:List Str}{XP:(Str->Option Value)->Heap->Prop}{YP:World->Heap->Prop}{d:DefRec}{K:Params->W.Frag}{CX:World->CXT}{sp:World->Sp}{x:Str}
  (hn:l.most=some n) (aX:n<=sizeLine) (a3:d.params.defaults=[]) (hr:jN k callerA)
  (hY:∀ (w:World) (h:Heap),YP w h->(K w.params).In h)
  (F:∀ (w:World) (mg:Str->Option Value) (fa:Addr) (h:Heap),(K w.params).In h->h.Ns mainGlobals mg->mg d.name=some (.ref fa) →
   ∃ fd:FuncData,(∀ (s:Shared) (u:Value),BindsTo s fd ⟨[u],[]⟩ [(x,u)]) /\
    ∀ base:Heap,(K w.params).In base->base.Ns mainGlobals mg->bj l.prog w (K w.params) mg base (CX w) k fa fd [x] (sp w))
  (a4:∀ (w:World) (H:Hp) (a:Addr) (ns:List Int),ns.length<=n->N5 H->SqL (K w.params) H a (ns.map V.int)->sp w [.ref a] H (λ v _=>v=.bl true) λ _ _ _=>False)
  (a5:∀ (w:World) (H:Hp) (s:Shared) (e:Value) (s':Shared),CX w [] H s (λ _ _ _=>False) e s'->False) :
  W.WalkO q loose XP YP l.row.toRowW d [] (λ f vs=>PySem.call f vs):=by
 refine Att.attach_call hn a3 λ w s₀ s₁ mg mb fa o pm cd doc a vs ns G Y ho hd a7 a6 aS hints hlen hg=>?_;have KX:=hY w _ Y;obtain⟨fd,hb,hF⟩:=F w mg fa _ KX G.T.g a6;exact DU KX G.T.g G.T.b G.T.builtins G.T.nolimit hg aS hints (RT hlen aX) hr hF hb (λ H hO hS=>a4 w H a ns hlen hO hS) λ H e s'=>a5 w H s₁ e s'
def bX(s:Stmt)(j:Nat):Stmt:=match s with
 | .ClassDef _ _ _ body _ _ _ _ _ _ _=>body.getD j (.Pass ⟨0,0,0,0⟩)
 | _=>.Pass ⟨0,0,0,0⟩
def eD(s:Stmt):Arguments:=match s with
 | .FunctionDef _ a _ _ _ _ _ _ _ _=>a
 | _=>{ posonlyargs:=[],args:=[],vararg:=none,kwonlyargs:=[],kw_defaults:=[],kwarg:=none,defaults:=[] }
def di(s:Stmt):List Stmt:=match s with
 | .FunctionDef _ _ b _ _ _ _ _ _ _=>b
 | _=>[]
def aa(s:Stmt):Scope:=match s with
 | .FunctionDef _ _ _ _ _ _ sc _ _ _=>sc
 | _=>{ kind:=.function,names:=[],isGenerator:=false,isCoroutine:=false }
abbrev CX0:CXT:=λ _ _ _ _ _ _=>False
abbrev E0:XK:=λ _ _ _=>False
def aZ{X:Cx}:kh CX0 X E0:=λ _ _ _ _ _ _ _ h=>h.elim
structure Fun(K:W.Frag)(x qual:Str)(st:Stmt)(f:Addr)(fd:FuncData):Prop where
 ex:∃ (oc:Value) (od:Option Addr) (kV doc pm:Value) (an:Option Addr) (cdv ct:Value) (osl:Array (Option Value)),
  fd=W.fnOf x qual (eD st) (di st) (aa st) .none kV doc pm an cdv ct/\K.lookup f=some ⟨oc,od,.func fd,osl⟩/\W.codeIn K cdv qual=true
 kp:W.keepIn K (.ref f)=true
section
variable {P:Program}{w:World}{K:PySem.W.Frag}{mg:Str->Option Value}{base:Heap}
def Fun.ok{x qual:Str}{st:Stmt}{f:Addr}{fd:FuncData}{N ps:List Str}{k:Nat}{sp:Sp}(F:Fun K x qual st f fd)(S:ag N ps (aa st))(len:∀ vs H Q E,sp vs H Q E->vs.length=ps.length)
  (aS:∀ (cdv:Value) (A:Around) (outer:List Env) (s:Shared) (H:Hp) (vs:List V) (Q:VK) (E:XK),jN k (A.deeper (envOfC qual (aa st) s.heap.objs.size f cdv))->sp vs H Q E →
   ∃ t,PSs (E3 CX0 P w K mg base N qual (aa st) f cdv A outer s H E).nox (di st) t/\t { nx:=λ _ H'=>Q .non H',rt:=Q } (aw N vs) H):bj P w K mg base CX0 (k+1) f fd ps sp:=by
 obtain⟨oc,od,kV,doc,pm,an,cdv,ct,osl,rfl,lk,aX⟩:=F.ex;refine KG lk aX S len λ A outer s H vs Q E hr a3=>?_;obtain⟨t,h,q⟩:=aS cdv A outer s H vs Q E hr a3;exact⟨t,h.nox,q⟩
def Fun.binds{x qual:Str}{st:Stmt}{f:Addr}{fd:FuncData}{ps:List Str}(F:Fun K x qual st f fd)
  (h:∀ (kV doc pm:Value) (an:Option Addr) (cdv ct:Value) (us:List Value),us.length=ps.length->bindArgs (W.fnOf x qual (eD st) (di st) (aa st) .none kV doc pm an cdv ct) ⟨us,[]⟩=pure (ps.zip us)):av K fd ps []:=by
 obtain⟨oc,od,kV,doc,pm,an,cdv,ct,osl,rfl,lk,aS⟩:=F.ex;exact .all (h kV doc pm an cdv ct)
def MK{x qual:Str}{st:Stmt}{f:Addr}{oc:Value}{od an:Option Addr}{osl:Array (Option Value)}{kV doc pm cdv ct:Value}(l:K.lookup f=some ⟨oc,od,.func (W.fnOf x qual (eD st) (di st) (aa st) .none kV doc pm an cdv ct),osl⟩)
  (c:W.codeIn K cdv qual=true) (k:W.keepIn K (.ref f)=true):Fun K x qual st f (W.fnOf x qual (eD st) (di st) (aa st) .none kV doc pm an cdv ct):=⟨⟨oc,od,kV,doc,pm,an,cdv,ct,osl,rfl,l,c⟩,k⟩
end
def qk{n:Nat}(h:n<=1000):n < sizeLine:=Nat.lt_of_le_of_lt h (by decide)
section
variable {X:Cx}
def pv(i:Nat){x:Str}{pos:Pos}(hN:X.N[i]? = some x:=by rfl)(hv:Vis X.env.scope x:=by first|exact Or.inl rfl|exact Or.inr (Or.inl rfl)|exact Or.inr (Or.inr rfl))(hd:(x == ("__debug__":Str))=false:=by decide)
  (aS:(x == ("__classdict__":Str))=false:=by decide):PE X (.Name x pos) (MZ i):=K6 hN hv hd aS
end
def PX{c A B:Prop}[Decidable c](h1:c->A)(h2:¬ c->B):if c then A else B:=by
 by_cases h:c
 ·rw [Rc h];exact h1 h
 ·rw [Q5 h];exact h2 h
def pQ(H H':Hp):Prop:=∀ b o,H b=some o->H' b=some o
def pQ.refl(H:Hp):pQ H H:=λ _ _ h=>h
def pQ.trans{H H1 H2:Hp}(a:pQ H H1)(b:pQ H1 H2):pQ H H2:=λ c o h=>b c o (a c o h)
def pQ.free{H H':Hp}(e:pQ H H'){l:Addr}(h:H' l=Option.none):H l=Option.none:=by
 cases q:H l with
 | none=>rfl
 | some o=>
  rw [e l o q] at h;cases h
def pQ.seq{K:W.Frag}{H H':Hp}{a:Addr}{xs:List V}(e:pQ H H')(h:SqL K H a xs):SqL K H' a xs:=by
 rcases h with (h|⟨o,h⟩)|h
 ·exact .inl (.inl (e _ _ h))
 ·exact .inl (.inr ⟨o,e _ _ h⟩)
 ·exact .inr h
section
variable {κ:Type}[DecidableEq κ]
def eP(kvs:List (κ × V))(k:κ):Option V:=(kvs.find? λ kv=>decide (kv.1=k)).map (·.2)
def lY(kvs:List (κ × V))(k:κ)(v:V):List (κ × V):=
 if (kvs.any λ kv=>decide (kv.1=k))=true then kvs.map (λ kv=>if kv.1=k then (kv.1,v) else kv) else kvs++[(k,v)]
def cc{p:κ × V}{r:List (κ × V)}{k:κ}(e:p.1=k):eP (p::r) k=some p.2:=by simp [eP,S0,e]
def cg{p:κ × V}{r:List (κ × V)}{k:κ}(e:¬ p.1=k):eP (p::r) k=eP r k:=by simp [eP,S0,e]
def iF(k:κ):∀ kvs:List (κ × V),(kvs.any λ kv=>decide (kv.1=k))=(eP kvs k).isSome
 | []=>rfl
 | p::r=>by
  rw [any_cons]
  by_cases e:p.1=k
  ·simp only [cc e,Q4 e,Bool.true_or,Option.isSome_some]
  ·rw [cg e,Ro e,Bool.false_or];exact iF k r
def uJ(k j:κ)(y:V):∀ kvs:List (κ × V),eP (kvs.map λ kv=>if kv.1=k then (kv.1,y) else kv) j=(eP kvs j).map λ x=>if j=k then y else x
 | []=>rfl
 | p::r=>by
  have ih:=uJ k j y r;rw [RQ]
  by_cases h:p.1=k
  ·rw [Rc h]
   by_cases e:p.1=j
   ·rw [cc (p:=(p.1,y)) e,cc e,Tb,Rc (e.symm.trans h)]
   ·rw [cg (p:=(p.1,y)) e,cg e,ih]
  ·rw [Q5 h]
   by_cases e:p.1=j
   ·rw [cc (p:=p) e,cc e,Tb,Q5 (λ z=>h (e.trans z))]
   ·rw [cg (p:=p) e,cg e,ih]
def qg(k j:κ)(y:V):∀ kvs:List (κ × V),eP kvs k=none->eP (kvs++[(k,y)]) j=if j=k then some y else eP kvs j
 | [],_=>by
  by_cases e:k=j
  ·rw [Rc e.symm];exact cc (p:=(k,y)) e
  ·rw [Q5 (λ z=>e z.symm)];exact cg (p:=(k,y)) e
 | p::r,hn=>by
  rw [Ue];have hk:¬ p.1=k:=λ z=>by rw [cc z] at hn;cases hn
  rw [cg hk] at hn;have ih:=qg k j y r hn
  by_cases e:p.1=j
  ·rw [cc e,cc e,Q5 (λ z=>hk (e.trans z))]
  ·rw [cg e,cg e,ih]
def gw(kvs:List (κ × V))(k j:κ)(y:V):eP (lY kvs k y) j=if j=k then some y else eP kvs j:=by
 unfold lY
 by_cases a:(kvs.any λ kv=>decide (kv.1=k))=true
 ·rw [Rc a,uJ];rw [iF] at a
  by_cases e:j=k
  ·obtain⟨x,hx⟩:=S8.mp a;rw [Rc e,e,hx,Tb,Rc rfl]
  ·rw [Q5 e]
   cases eP kvs j with
   | none=>rfl
   | some x=>rw [Tb,Q5 e]
 ·rw [Q5 a];refine qg k j y kvs ?_;rw [iF] at a
  cases q:eP kvs k with
  | none=>rfl
  | some x=>rw [q] at a;exact(a rfl).elim
def lA(kvs:List (κ × V))(k:κ)(v:V):(lY kvs k v).length<=kvs.length+1:=by
 unfold lY;split
 ·rw [QE];omega
 ·rw [QX,Rr,Um];omega
def uR{kvs:List (κ × V)}{k:κ}(v:V)(h:eP kvs k=none):lY kvs k v=kvs++[(k,v)]:=by
 unfold lY;rw [iF,h];exact if_neg (by decide)
def pN.isSome_eq{o:Option V}{u:Option Value}(r:pN o u):o.isSome=u.isSome:=by
 cases o with
 | none=>cases u with
  | none=>rfl
  | some _=>exact(show False from r).elim
 | some _=>cases u with
  | none=>exact(show False from r).elim
  | some _=>rfl
def pN.getD{o:Option V}{u:Option Value}{d:V}{d':Value}(r:pN o u)(rd:bF d d'):bF (o.getD d) (u.getD d'):=by
 cases o with
 | none=>cases u with
  | none=>exact rd
  | some _=>exact(show False from r).elim
 | some _=>cases u with
  | none=>exact(show False from r).elim
  | some _=>exact r
def KV.val{kvs:List (κ × V)}{vs:List (κ × Value)}(r:KV kvs vs)(k:κ):pN (eP kvs k) (valueAt vs k):=by
 unfold KV at r
 induction r with
 | nil=>exact True.intro
 | @cons p q ps qs h t ih=>
  obtain⟨h1,h2⟩:=h
  by_cases e:p.1=k
  ·have e':q.1=k:=h1.symm.trans e;have b:valueAt (q::qs) k=some q.2:=by simp [valueAt,S0,e']
   rw [cc e,b];exact h2
  ·have e':¬ q.1=k:=λ z=>e (h1.trans z);have b:valueAt (q::qs) k=valueAt qs k:=by simp [valueAt,S0,e']
   rw [cg e,b];exact ih
def KV.any{kvs:List (κ × V)}{vs:List (κ × Value)}(r:KV kvs vs)(k:κ):(kvs.any λ kv=>decide (kv.1=k))=vs.any λ kv=>decide (kv.1=k):=by
 unfold KV at r
 induction r with
 | nil=>rfl
 | cons h t ih=>rw [any_cons,any_cons,ih,h.1]
def KV.repl{kvs:List (κ × V)}{vs:List (κ × Value)}(r:KV kvs vs)(k:κ){y:V}{u:Value}(ry:bF y u) :
  KV (kvs.map λ kv=>if kv.1=k then (kv.1,y) else kv) (vs.map λ kv=>if kv.1=k then (kv.1,u) else kv):=by
 unfold KV at r ⊢
 induction r with
 | nil=>exact .nil
 | @cons p q ps qs h t ih=>
  rw [RQ,RQ];refine .cons ?_ ih;obtain⟨h1,h2⟩:=h
  by_cases e:p.1=k
  ·rw [Rc e,Rc (h1.symm.trans e)];exact⟨h1,ry⟩
  ·rw [Q5 e,Q5 (λ z=>e (h1.trans z))];exact⟨h1,h2⟩
def KV.put{kvs:List (κ × V)}{vs:List (κ × Value)}(r:KV kvs vs)(k:κ){y:V}{u:Value}(ry:bF y u):KV (lY kvs k y) (stored vs k u):=by
 unfold lY stored;rw [r.any k]
 by_cases e:(vs.any λ kv=>decide (kv.1=k))=true
 ·rw [Rc e,Rc e];exact r.repl k ry
 ·rw [Q5 e,Q5 e];exact Paired.snoc r ⟨rfl,ry⟩
def KV.length{kvs:List (κ × V)}{vs:List (κ × Value)}(r:KV kvs vs):kvs.length=vs.length:=Up r
end
def vP{P:Program}{w:World}{k:Key}{u:Value}(r:bF (kV k) u):(bI P w).is k u=true:=by
 cases k with
 | inl i=>obtain⟨t,e⟩:=(show ∃ t,u=Value.int i t from r);subst e;exact tQ P w i t
 | inr x=>obtain⟨t,e⟩:=(show ∃ t,u=Value.str x t from r);subst e;exact tP P w x t
def qE{P:Program}{w:World}:∀ {ks:List Key}{us:List Value},aY (ks.map kV) us->ItemsAre (bI P w) ks us
 | [],_,r=>by rw [map_nil] at r;cases r;exact .nil
 | k::ks,_,r=>by
  rw [RQ] at r
  cases r with
  | cons h t=>exact .cons (vP h) (qE t)
abbrev KT(H:Hp):List (List Key × V)->List (List Key × Addr × Value)->Prop:=Paired λ p q=>p.1=q.1/\H q.2.1=some (.tup (p.1.map kV))/\bF p.2 q.2.2
def KT.val{H:Hp}{kvs:List (List Key × V)}{xs:List (List Key × Addr × Value)}(r:KT H kvs xs)(k:List Key):pN (eP kvs k) ((atKey xs k).map (·.2)):=by
 induction r with
 | nil=>exact True.intro
 | @cons p q ps qs h t ih=>
  obtain⟨h1,_,h2⟩:=h
  by_cases e:p.1=k
  ·have e':q.1=k:=h1.symm.trans e;have b:atKey (q::qs) k=some q.2:=by simp [atKey,S0,e']
   rw [cc e,b];exact h2
  ·have e':¬ q.1=k:=λ z=>e (h1.trans z);have b:atKey (q::qs) k=atKey qs k:=by simp [atKey,S0,e']
   rw [cg e,b];exact ih
def KT.repl{H:Hp}{kvs:List (List Key × V)}{xs:List (List Key × Addr × Value)}(r:KT H kvs xs)(k:List Key){y:V}{u:Value}(ry:bF y u) :
  KT H (kvs.map λ kv=>if kv.1=k then (kv.1,y) else kv) (xs.map (putAt k u)):=by
 induction r with
 | nil=>exact .nil
 | @cons p q ps qs h t ih=>
  rw [map_cons,map_cons];refine .cons ?_ ih;obtain⟨h1,h2,h3⟩:=h;unfold putAt
  by_cases e:p.1=k
  ·rw [Rc e,Rc (h1.symm.trans e)];exact⟨h1,h2,ry⟩
  ·rw [Q5 e,Q5 (λ z=>e (h1.trans z))];exact⟨h1,h2,h3⟩
def KT.put{H:Hp}{kvs:List (List Key × V)}{xs:List (List Key × Addr × Value)}(r:KT H kvs xs)(k:List Key){b:Addr}{y:V}{u:Value}(hb:H b=some (.tup (k.map kV)))(ry:bF y u) :
  KT H (lY kvs k y) (storedH xs k b u):=by
 have e:(kvs.any λ kv=>decide (kv.1=k))=(atKey xs k).isSome:=by
  rw [iF,(r.val k).isSome_eq,Option.isSome_map]
 unfold lY storedH;rw [e]
 by_cases q:(atKey xs k).isSome=true
 ·rw [Rc q,Rc q];exact r.repl k ry
 ·rw [Q5 q,Q5 q];exact Paired.snoc r ⟨rfl,hb,ry⟩
def KT.keeps{H H':Hp}{kvs:List (List Key × V)}{xs:List (List Key × Addr × Value)}(r:KT H kvs xs)(ht:∀ b ys,H b=some (.tup ys)->H' b=some (.tup ys)):KT H' kvs xs:=
 Paired.mapP r λ _ _ z=>⟨z.1,ht _ _ z.2.1,z.2.2⟩
section
variable {P:Program}{w:World}{H:Hp}{h:Heap}{a:Addr}
def Ke{u:HO}(ok:HOk P w H h)(e:Rd H a u):cF P w H h a u:=e.ok ok
def sr{kvs:List (Key × V)}(ok:HOk P w H h)(e:Rd H a (.dK kvs)):kvs.length<=sizeLine/\(a == sysModules)=false/\∃ vs,KV kvs vs/\h.DictOf (bI P w) a vs:=
 show cF P w H h a (.dK kvs) from Ke ok e
def Gz{kvs:List (Key × V)}(ok:HOk P w H h)(e:H a=some (.dK kvs)):kvs.length<=sizeLine/\(a == sysModules)=false/\∃ vs,KV kvs vs/\h.DictOf (bI P w) a vs:=sr ok (.inl e)
def mI{ks:List Key}(ok:HOk P w H h)(e:H a=some (.tup (ks.map kV))):(tupleKind (bI P w)).is h ks a:=by
 obtain⟨_,its,r,o,h1,h2,n,h3⟩:=(show cF P w H h a (.tup (ks.map kV)) from ok a _ e);exact⟨o,its.toArray,n,h1,h2,h3,by simpa using qE r⟩
def sm{kvs:List (List Key × V)}(ok:HOk P w H h)(e:Rd H a (.dT kvs)):kvs.length<=sizeLine/\(a == sysModules)=false /\
  ∃ xs,KT H kvs xs/\h.DictOfH (tupleKind (bI P w)) a xs:=by
 obtain⟨z,y,xs,r,o,es,ep,h1,h2,h3,h4,h5⟩:=(show cF P w H h a (.dT kvs) from Ke ok e);refine⟨z,y,xs,r,o,es,ep,h1,h2,h3,h4,λ x hx=>?_,h5⟩
 have all:∀ {l:List (List Key × V)} {m:List (List Key × Addr × Value)},KT H l m->∀ x∈m,(tupleKind (bI P w)).is h x.1 x.2.1:=by
  intro l m q
  induction q with
  | nil=>intro x hx;exact nomatch hx
  | @cons p q ps qs hq t ih=>
   intro x hx
   rcases Q1.mp hx with e|hx
   ·subst e;exact mI ok (by rw [←hq.1];exact hq.2.1)
   ·exact ih x hx
 exact all r x hx
def O1{kvs:List (List Key × V)}(ok:HOk P w H h)(e:H a=some (.dT kvs)):kvs.length<=sizeLine/\(a == sysModules)=false /\
  ∃ xs,KT H kvs xs/\h.DictOfH (tupleKind (bI P w)) a xs:=sm ok (.inl e)
end
def pO(H:Hp)(a:Addr)(y:V)(r:Option V):Prop:=
 (∃ kvs k,Rd H a (.dK kvs)/\y=kV k/\r=eP kvs k)\/∃ kvs k b,Rd H a (.dT kvs)/\y=.ref b/\H b=some (.tup (k.map kV))/\r=eP kvs k
def JT(H:Hp)(a:Addr)(y v:V)(H':Hp):Prop:=
 (∃ kvs k,H a=some (.dK kvs)/\y=kV k/\kvs.length < sizeLine/\H'=upd H a (.dK (lY kvs k v))) \/
 ∃ kvs k b,H a=some (.dT kvs)/\y=.ref b/\H b=some (.tup (k.map kV))/\kvs.length < sizeLine/\H'=upd H a (.dT (lY kvs k v))
def pO.k{H:Hp}{a:Addr}{kvs:List (Key × V)}{k:Key}(e:H a=some (.dK kvs)):pO H a (kV k) (eP kvs k):=.inl ⟨kvs,k,.inl e,rfl,rfl⟩
def JT.k{H:Hp}{a:Addr}{kvs:List (Key × V)}{k:Key}{v:V}(e:H a=some (.dK kvs))(hl:kvs.length < sizeLine):JT H a (kV k) v (upd H a (.dK (lY kvs k v))):=.inl ⟨kvs,k,e,rfl,hl,rfl⟩
section
variable {X:Cx}{pins:List (Addr × Obj)}{σ:St}{H:Hp}{s:Shared}{a:Addr}{y v:V}{u r:Value}{o:Option V}{A:Around}{E:Value->Shared->Prop}
def Inv.big(I:Inv X pins σ H s):sysModules < s.heap.objs.size:=by
 have h:mainGlobals < s.heap.objs.size:=(I.mod.glob.keeps I.bk).lt;exact TR (by decide) h
def BG{Q:Value->Shared->Prop}(hu:A.units+1 < cLine)(I:Inv X pins σ H s)(g:pO H a y (some v))(ry:bF y u)(h:∀ w' s',Inv X pins σ H s'->bF v w'->Q w' s') :
  wpAny (model X.prog X.w) A (getItem (.ref a) u) Q E s:=by
 rcases g with ⟨kvs,k,e,ey,l⟩|⟨kvs,k,b,e,ey,eb,l⟩
 ·subst ey;obtain⟨z,hd,vs,rel,dd⟩:=sr I.hok e;obtain⟨w',hw,aS⟩:=pN.some_of (v:=v) (o:=valueAt vs k) (by rw [l];exact rel.val k);exact wpAny_getItem_of (vP ry) dd.mapOf hw (h w' _ (I.tok _) aS)
 ·subst ey;cases (show u=Value.ref b from ry);obtain⟨z,hd,xs,rel,dd⟩:=sm I.hok e;obtain⟨w',hw,aS⟩:=pN.some_of (v:=v) (o:=(atKey xs k).map (·.2)) (by rw [l];exact rel.val k);obtain⟨p,hp,aX⟩:=QJ.mp hw;refine wpAny_getItem_heap (Tr hu) (mI I.hok eb) dd hp ?_;rw [aX];exact h w' _ (I.tok _) aS
def Qv{Q:Value->Shared->Prop}(hu:A.units+1 < cLine)(I:Inv X pins σ H s)(g:pO H a y o)(ry:bF y u)(h:∀ s',Inv X pins σ H s'->Q (.bool o.isSome) s') :
  wpAny (model X.prog X.w) A (compareOp .In u (.ref a)) Q E s:=by
 rcases g with ⟨kvs,k,e,ey,l⟩|⟨kvs,k,b,e,ey,eb,l⟩
 ·subst ey;obtain⟨z,hd,vs,rel,dd⟩:=sr I.hok e;refine wpAny_in_of (vP ry) hd dd.mapOf ?_;rw [←(rel.val k).isSome_eq,←l];exact h _ (I.tok _)
 ·subst ey;cases (show u=Value.ref b from ry);obtain⟨z,hd,xs,rel,dd⟩:=sm I.hok e;refine wpAny_in_heap (Tr hu) (mI I.hok eb) hd dd ?_;have q:=(rel.val k).isSome_eq;rw [Option.isSome_map] at q;rw [←q,←l];exact h _ (I.tok _)
def zo{h':Heap}{t':Nat}{ob:HO}(I:Inv X pins σ H s)(mu:Mut (H a))(hs:Heap.SameBut a s.heap h')(he:∃ q,h'.get? a=some q)(new:cF X.prog X.w (upd H a ob) h' a ob) :
  Inv X pins σ (upd H a ob) { s with heap:=h',toks:=t' }:=
 I.write (x:=a) (e:=a) mu (.inl rfl) (λ b q hb z=>(hs.2 b hb).trans z) he new
def MO{P:Program}{w:World}{H':Hp}{h':Heap}{kvs:List (Key × V)}{vs:List (Key × Value)}(z:kvs.length<=sizeLine)(hd:(a == sysModules)=false)(rel:KV kvs vs)(dd:h'.DictOf (bI P w) a vs) :
  cF P w H' h' a (.dK kvs):=⟨z,hd,vs,rel,dd⟩
def BF{H':Hp}{Q:Unit->Shared->Prop}(hu:A.units+1 < cLine)(I:Inv X pins σ H s)(g:JT H a y v H')(ry:bF y u)(rv:bF v r)(h:∀ s',Inv X pins σ H' s'->Q () s') :
  wpAny (model X.prog X.w) A (setItem (.ref a) u r) Q E s:=by
 rcases g with ⟨kvs,k,e,ey,l,eH⟩|⟨kvs,k,b,e,ey,eb,l,eH⟩
 ·subst ey eH;obtain⟨z,hd,vs,rel,dd⟩:=Gz I.hok e;have hz:vs.length<=sizeLine:=by rw [←rel.length];exact z
  have hl:(lY kvs k v).length<=sizeLine:=by have:=lA kvs k v;omega
  refine wpAny_setItem_pairs (hsz:=hz) (vP ry) dd λ h' aS hs=>h _ ?_;have he:∃ q,h'.get? a=some q:=let ⟨q,_,_,hq,_⟩:=aS;⟨q,hq⟩;exact zo I (by rw [e];exact True.intro) hs he (MO hl hd (rel.put k rv) aS)
 ·subst ey eH;cases (show u=Value.ref b from ry);obtain⟨z,hd,xs,rel,dd⟩:=O1 I.hok e;have hz:xs.length<=sizeLine:=by rw [←Up rel];exact z
  have hl:(lY kvs k v).length<=sizeLine:=by have:=lA kvs k v;omega
  refine wpAny_setItem_heap (hsz:=hz) (Tr hu) (mI I.hok eb) dd λ h' aS hs=>h _ ?_;obtain⟨q,es,ep,hq,h2,h3,h4,_,h5⟩:=aS;refine zo I (by rw [e];exact True.intro) hs ⟨q,hq⟩ ⟨hl,hd,_,(rel.put k eb rv).keeps λ c ys ec=>?_,q,es,ep,hq,h2,h3,h4,h5⟩;rw [ah (Oj ec e (λ z=>nomatch z))];exact ec
end
section
variable {X:Cx}{pins:List (Addr × Obj)}{σ:St}{H:Hp}{s:Shared}{a:Addr}{kvs:List (Key × V)}{k:Key}{u:Value}{A:Around}{E:Value->Shared->Prop}
end
def P8(i:Expr):Prop:=∀ ov iv,subscripted i false ov iv=operate [ov,iv] (getItem ov iv)
def GY{prog:Program}{w:World}{A:Around}{E:Value->Shared->Prop}{s:Shared}{env:Env}{value slice:Expr}{pos:Pos}{T id:String}{Q:Value->Shared->Prop}
  (hl:typeLookup (.type T) "__getitem__"=pure (some (.builtin id))) (hs:P8 slice)
  (h:wpAny (model prog w) A (eval value env) (λ o s₁=>wpAny (model prog w) A (eval slice env) (λ i s₂=>s₂.TypeIs o T/\wpAny (model prog w) A (getItem o i) Q E s₂) E s₁) E s) :
  wpAny (model prog w) A (eval (.Subscript value slice pos) env) Q E s:=by
 refine Subscript_ (wpAny_mono h (λ o s₁ h₁=>wpAny_mono h₁ (λ i s₂ h₂=>?_) λ _ _ x=>x) λ _ _ x=>x);obtain⟨hT,h₂⟩:=h₂;unfold subscriptTail;refine wpAny_bind ?_;rw [getitemInPython_of_ne hT.not_modules];refine wpAny_bind (wpAny_specialOf hT hl ?_)
 have fin:wpAny (model prog w) A (subscripted slice false o i) (λ r s₃=>wpAny (model prog w) A (letTemporaryGo value o r >>= λ _=>pure r) Q E s₃) E s₂:=by
  rw [hs o i];exact wpAny_operating (Ui h₂ (λ r s₃ h₃=>My (wpAny_letTemporaryGo (QI h₃))) λ _ _ x=>x)
 first
  | exact QI (My fin)
  | exact My (QI (My fin))
  | exact My fin
def uc{X:Cx}{pins:List (Addr × Obj)}{σ:St}{H:Hp}{s:Shared}{a:Addr}{y:V}{o:Option V}(I:Inv X pins σ H s)(g:pO H a y o):s.TypeIs (.ref a) "dict":=by
 rcases g with ⟨kvs,k,e,_,_⟩|⟨kvs,k,b,e,_,_,_⟩
 ·obtain⟨_,_,vs,_,dd⟩:=sr I.hok e;exact dd.typeIs
 ·obtain⟨_,_,xs,_,dd⟩:=sm I.hok e;exact dd.typeIs
def J9(td ty:TE):TE:=λ σ H Q=>td σ H λ x H1=>ty σ H1 λ y H2=>∃ a v,x=.ref a/\pO H2 a y (some v)/\Q v H2
def Kd(td ty tv:TE):TS:=λ D σ H=>tv σ H λ v H1=>td σ H1 λ x H2=>ty σ H2 λ y H3=>∃ a H4,x=.ref a/\JT H3 a y v H4/\D.nx σ H4
section
variable {X:Cx}{o i e value:Expr}{pos pos' tpos:Pos}{td ty tv:TE}
def yN(hu:X.A.units+1 < cLine)(ho:PE X o td)(hi:PE X i ty)(hs:P8 i):PE X (.Subscript o i pos) (J9 td ty):=by
 intro pins s σ H Q I h;refine GY PySem.F.slot_dict_getitem.lookup hs (thn (ho pins s σ H _ I h) λ u s1 ⟨x,H1,I1,rx,q1⟩=>thn (hi pins s1 σ H1 _ I1 q1) λ iv s2 ⟨y,H2,I2,ry,a,v,ex,g,q2⟩=>?_);subst ex;obtain rfl:u=Value.ref a:=rx;exact⟨uc I2 g,BG hu I2 g ry λ w' s3 I3 aS=>⟨v,H2,I3,aS,q2⟩⟩
def km(hu:X.A.units+1 < cLine)(ho:PE X o td)(hi:PE X i ty)(hv:PE X value tv)(hs:swapsWith value (some (.Subscript o i pos')) pos.line X.env=pure false) :
  PS X (.Assign [.Subscript o i pos'] value pos) (Kd td ty tv):=by
 intro pins s σ H D I h;refine wpAny_Assign_Subscript (thn (hv pins s σ H _ I h) λ r s1 ⟨v,H1,I1,rv,q1⟩=>thn (ho pins s1 σ H1 _ I1 q1) λ u s2 ⟨x,H2,I2,rx,q2⟩=>thn (hi pins s2 σ H2 _ I2 q2) λ iv s3 ⟨y,H3,I3,ry,a,H4,ex,g,q3⟩=>?_) hs;subst ex;obtain rfl:u=Value.ref a:=rx;exact BF hu I3 g ry rv λ s4 I4=>⟨σ,H4,I4,q3⟩
end
def EH{P:Program}{w:World}{H:Hp}(h:Heap)(hb:sysModules < h.objs.size):cF P w H (h.push { cls:=.type "dict",data:=.dict #[] }) h.objs.size (.dK []):=
 ⟨RP _,S3.mpr (QQ (QY hb)),[],.nil,Heap.DictOf.new h⟩
def KS:TE:=λ _ H Q=>∀ p,H p=none->Q (.ref p) (upd H p (.dK []))
section
variable {X:Cx}{pos:Pos}
def Dn:PE X (.Dict [] [] pos) KS:=λ pins s σ H Q I h=>
 wpAny_Dict_empty ⟨.ref s.heap.objs.size,_,I.laid (a:=s.heap.objs.size) (o:=.dK []) (t':=s.toks) (λ _ _ q=>QC _ q) (QK _) (EH s.heap I.big),rfl,h _ (I.hok.fresh (QK _))⟩
end
structure M1(X:Cx)(o:Expr)(m:Str)(apos:Pos)(e:Expr)(cpos:Pos):Prop where
 base:attributeBase o m X.env (eval o X.env)=eval o X.env
 few:((backTo cpos (starEach [e] X.env)).all (λ x=>!x.1) && (backToKw cpos (keywordEach [] X.env)).all (λ x=>x.1.isSome)
  && decide (([e]:List Expr).length+([]:List Keyword).length+(if ([]:List Keyword).isEmpty then 0 else 1) < 30))=true
 line:(apos.endLine == cpos.line)=true
 trees:backTo cpos (starEach [e] X.env)=[(false,eval e X.env)]
structure M2(X:Cx)(o:Expr)(m:Str)(apos:Pos)(e f:Expr)(cpos:Pos):Prop where
 base:attributeBase o m X.env (eval o X.env)=eval o X.env
 few:((backTo cpos (starEach [e,f] X.env)).all (λ x=>!x.1) && (backToKw cpos (keywordEach [] X.env)).all (λ x=>x.1.isSome)
  && decide (([e,f]:List Expr).length+([]:List Keyword).length+(if ([]:List Keyword).isEmpty then 0 else 1) < 30))=true
 line:(apos.endLine == cpos.line)=true
 trees:backTo cpos (starEach [e,f] X.env)=[(false,eval e X.env),(false,eval f X.env)]
def IsD(H:Hp)(a:Addr):Prop:=(∃ kvs,Rd H a (.dK kvs))\/∃ kvs,Rd H a (.dT kvs)
def Fv{X:Cx}{pins:List (Addr × Obj)}{σ:St}{H:Hp}{s:Shared}{a:Addr}(I:Inv X pins σ H s)(d:IsD H a) :
  s.TypeIs (.ref a) "dict" /\ (∀ b,Value.ref a=.ref b->∃ ob,s.heap.get? b=some ob/\ob.dict=none)/\(a == sysModules)=false:=by
 rcases d with ⟨kvs,e⟩|⟨kvs,e⟩
 ·obtain⟨_,hd,vs,_,dd⟩:=sr I.hok e;refine⟨dd.typeIs,λ b q=>?_,hd⟩;cases q;obtain⟨ob,_,_,h1,h2,_⟩:=dd;exact⟨ob,h1,h2.2.1⟩
 ·obtain⟨_,hd,xs,_,dd⟩:=sm I.hok e;refine⟨dd.typeIs,λ b q=>?_,hd⟩;cases q;obtain⟨ob,_,_,h1,h2,_⟩:=dd;exact⟨ob,h1,h2.2.1⟩
section
variable {X:Cx}{pins:List (Addr × Obj)}{σ:St}{H:Hp}{s:Shared}{a:Addr}{y d:V}{u r:Value}{o:Option V}{A:Around}{E:Value->Shared->Prop}
def MQ{Q:Value->Shared->Prop}(hu:A.units+1 < cLine)(I:Inv X pins σ H s)(g:pO H a y o)(ry:bF y u)(h:∀ w' s',Inv X pins σ H s'->bF (o.getD .non) w'->Q w' s') :
  wpAny (model X.prog X.w) A (call (.builtin "dict.get") [.ref a,u]) Q E s:=by
 rcases g with ⟨kvs,k,e,ey,l⟩|⟨kvs,k,b,e,ey,eb,l⟩
 ·subst ey;obtain⟨z,hd,vs,rel,dd⟩:=sr I.hok e;refine call_meetsIn Sk dd.typeIs Ti (PySem.F.args_dict_get_2 _ _) (meets_dict_get (bI X.prog X.w) a (vP ry) hd) ⟨_,dd.mapOf,h _ _ (I.tok _) ?_⟩;rw [l];exact(rel.val k).getD rfl
 ·subst ey;cases (show u=Value.ref b from ry);obtain⟨z,hd,xs,rel,dd⟩:=sm I.hok e;refine call_meetsIn Sk dd.typeIs Ti (PySem.F.args_dict_get_2 _ _) (meetsH_dict_get (tupleKind (bI X.prog X.w)) a b hd) ⟨Tr hu,k,xs,mI I.hok eb,dd,h _ _ (I.tok _) ?_⟩;rw [l];exact(rel.val k).getD rfl
def MP{Q:Value->Shared->Prop}(hu:A.units+1 < cLine)(I:Inv X pins σ H s)(g:pO H a y o)(ry:bF y u)(rd:bF d r)(h:∀ w' s',Inv X pins σ H s'->bF (o.getD d) w'->Q w' s') :
  wpAny (model X.prog X.w) A (call (.builtin "dict.get") [.ref a,u,r]) Q E s:=by
 rcases g with ⟨kvs,k,e,ey,l⟩|⟨kvs,k,b,e,ey,eb,l⟩
 ·subst ey;obtain⟨z,hd,vs,rel,dd⟩:=sr I.hok e;refine call_meetsIn Sk dd.typeIs Ti (PySem.F.args_dict_get_3 _ _ _) (meets_dict_get_default (bI X.prog X.w) a (vP ry) hd r) ⟨_,dd.mapOf,h _ _ (I.tok _) ?_⟩;rw [l];exact(rel.val k).getD rd
 ·subst ey;cases (show u=Value.ref b from ry);obtain⟨z,hd,xs,rel,dd⟩:=sm I.hok e;refine call_meetsIn Sk dd.typeIs Ti (PySem.F.args_dict_get_3 _ _ _) (meetsH_dict_get_default (tupleKind (bI X.prog X.w)) a b hd r) ⟨Tr hu,k,xs,mI I.hok eb,dd,h _ _ (I.tok _) ?_⟩;rw [l];exact(rel.val k).getD rd
end
def Fd(td ty:TE):TE:=λ σ H Q=>td σ H λ x H1=>∃ a,x=.ref a/\IsD H1 a/\ty σ H1 λ y H2=>∃ o,pO H2 a y o/\Q (o.getD .non) H2
def Fc(td ty tx:TE):TE:=λ σ H Q=>td σ H λ x H1=>∃ a,x=.ref a/\IsD H1 a/\ty σ H1 λ y H2=>tx σ H2 λ z H3=>∃ o,pO H3 a y o/\Q (o.getD z) H3
section
variable {X:Cx}{o e f:Expr}{apos cpos:Pos}{td ty tx:TE}
def Dq(hu:X.A.units+1 < cLine)(ho:PE X o td)(he:PE X e ty)(m:M1 X o "get" apos e cpos):PE X (.Call (.Attribute o "get" apos) [e] [] cpos) (Fd td ty):=by
 intro pins s σ H Q I h;refine wpAny_Call_method m.base m.few m.line PySem.F.plainAttrs_dict Sk PySem.F.type_dict_get (thn (ho pins s σ H _ I h) λ u s1 ⟨x,H1,I1,rx,a,ex,d,q1⟩=>?_);subst ex;obtain rfl:u=Value.ref a:=rx;obtain⟨t1,t2,_⟩:=Fv I1 d;refine⟨t1,t2,?_⟩;rw [m.trees];refine TC rfl (UR (SQ (thn (he pins s1 σ H1 _ I1 q1) λ iv s2 ⟨y,H2,I2,ry,ov,g,q2⟩=>TF ?_)));exact MQ hu I2 g ry λ w' s3 I3 aS=>⟨_,H2,I3,aS,q2⟩
def Dp(hu:X.A.units+1 < cLine)(ho:PE X o td)(he:PE X e ty)(hf:PE X f tx)(m:M2 X o "get" apos e f cpos):PE X (.Call (.Attribute o "get" apos) [e,f] [] cpos) (Fc td ty tx):=by
 intro pins s σ H Q I h;refine wpAny_Call_method m.base m.few m.line PySem.F.plainAttrs_dict Sk PySem.F.type_dict_get (thn (ho pins s σ H _ I h) λ u s1 ⟨x,H1,I1,rx,a,ex,d,q1⟩=>?_);subst ex;obtain rfl:u=Value.ref a:=rx;obtain⟨t1,t2,_⟩:=Fv I1 d;refine⟨t1,t2,?_⟩;rw [m.trees]
 refine TC rfl (UR (SQ (thn (he pins s1 σ H1 _ I1 q1) λ iv s2 ⟨y,H2,I2,ry,q2⟩=>
  SQ (thn (hf pins s2 σ H2 _ I2 q2) λ fv s3 ⟨z,H3,I3,rz,ov,g,q3⟩=>TF ?_))))
 exact MP hu I3 g ry rz λ w' s4 I4 aS=>⟨_,H3,I4,aS,q3⟩
end
section
variable {X:Cx}{pins:List (Addr × Obj)}{σ:St}{H:Hp}{s:Shared}{a:Addr}{kvs:List (Key × V)}{A:Around}{E:Value->Shared->Prop}
end
section
variable {X:Cx}{pins:List (Addr × Obj)}{σ:St}{H:Hp}{s:Shared}{a:Addr}{y:V}{u:Value}{A:Around}{E:Value->Shared->Prop}
end
section
variable {κ:Type}[DecidableEq κ]
end
section
variable {X:Cx}
def GB(i j:Int):Prop:=i.natAbs < 2 ^ 256/\j.natAbs < 2 ^ 256
def zB{i:Int}(h:i.natAbs < 2 ^ 256):Builtin.Int.intBits i<=2 ^ 20:=RT (intBits_le h) (by decide)
def Hz:OpR X (binaryOp .Mult) (rI GB λ i j=>.int (i * j)):=opI λ _ _ _ _ _ _ _ hc q=>mul_int q (IntMulOk.of_bits (zB hc.1) (zB hc.2))
def EK:cn X (.builtin "isinstance") (λ xs H Q=>∃ x n ty b,xs=[x,.ty n]/\uw X.K H x ty/\W.kitOne X.K ty (.type n)=some b/\Q (.bl b) H):=by
 intro pins s σ H xs us Q I r h;obtain⟨x,n,ty,b,rfl,aS,hk,q⟩:=h;obtain⟨u,w',rfl,rx,rc⟩:=FI r;cases (show w'=Value.type n from rc);exact Bz I rx aS hk (λ tk=>⟨.bl b,H,I.tok _,rfl,q⟩)
def Bu(K:W.Frag)(A B:String)(r:Bool)
  (h:(if (Value.type A == Value.type B)=true then some true else if W.kitMeta B=true then (fastBuiltinMro A).map (·.contains (.type B)) else none)=some r):W.kitOne K (.type A) (.type B)=some r:=h
mutual
inductive nH (K:PySem.W.Frag) (H:Hp):V->PyData->Prop
 | non:nH K H .non .none
 | bl (b:Bool):nH K H (.bl b) (.bool b)
 | int (i:Int):nH K H (.int i) (.int i)
 | str (x:Str):nH K H (.str x) (.str x)
 | lst {a:Addr} {xs:List V} {ds:List PyData} (h:SqL K H a xs) (r:kf K H xs ds):nH K H (.ref a) (.list ds)
 | tup {a:Addr} {xs:List V} {ds:List PyData} (h:SqT K H a xs) (r:kf K H xs ds):nH K H (.ref a) (.tuple ds)
inductive kf (K:PySem.W.Frag) (H:Hp):List V->List PyData->Prop
 | nil:kf K H [] []
 | cons {x:V} {d:PyData} {xs:List V} {ds:List PyData} (h:nH K H x d) (t:kf K H xs ds):kf K H (x::xs) (d::ds)
end
mutual
def nH.reads{pins:List (Addr × Obj)}{σ:St}{H:Hp}{s:Shared}(I:Inv X pins σ H s):∀ {x:V}{d:PyData}{u:Value},nH X.K H x d->bF x u->∃ as,Reads s.heap u d as
 | _,_,_,.non,r=>by cases (show _=Value.none from r);exact⟨_,.none⟩
 | _,_,_,.bl b,r=>by cases (show _=Value.bool b from r);exact⟨_,.bool b⟩
 | _,_,_,.int i,r=>by obtain⟨t,rfl⟩:=r;exact⟨_,.int i t⟩
 | _,_,_,.str x,r=>by obtain⟨t,rfl⟩:=r;exact⟨_,.str x t⟩
 | _,_,_,@nH.lst _ _ a xs ds h q,r=>by
  cases (show _=Value.ref a from r);obtain⟨its,hv,hp,_⟩:=I.list h;obtain⟨o,n,e,c,_,d⟩:=hp;obtain⟨as,z⟩:=kf.reads I q hv;exact⟨_,.list e c d (by simpa using z)⟩
 | _,_,_,@nH.tup _ _ a xs ds h q,r=>by
  cases (show _=Value.ref a from r);obtain⟨its,hv,hp,_⟩:=I.tuple h;obtain⟨o,e,c,n,d⟩:=hp;obtain⟨as,z⟩:=kf.reads I q hv;exact⟨_,.tuple e c d (by simpa using z)⟩
def kf.reads{pins:List (Addr × Obj)}{σ:St}{H:Hp}{s:Shared}(I:Inv X pins σ H s):∀ {xs:List V}{ds:List PyData}{us:List Value},kf X.K H xs ds->aY xs us->∃ as,ReadsAll s.heap us ds as
 | _,_,_,.nil,.nil=>⟨_,.nil⟩
 | _,_,_,.cons h t,.cons r q=>by
  obtain⟨as,z⟩:=nH.reads I h r;obtain⟨bs,y⟩:=kf.reads I t q;exact⟨_,.cons z y⟩
end
def Ql(K:W.Frag):R2:=λ x y H Q=>∃ d e,nH K H x d/\nH K H y e/\SeqAt.shaped d=true/\SeqAt.shaped e=true/\Q (.bl (PyData.eqv d e)) H
def Qh(K:W.Frag):R2:=λ x y H Q=>∃ d e,nH K H x d/\nH K H y e/\SeqAt.shaped d=true/\SeqAt.shaped e=true/\Q (.bl (!PyData.eqv d e)) H
def Li(hu:X.A.units+64 < cLine):OpR X (compareOp .Eq) (Ql X.K):=by
 intro pins s σ H x y v u Q I rx ry h;obtain⟨d,e,hd,he,sd,se,q⟩:=h;obtain⟨as,z⟩:=hd.reads I rx;obtain⟨bs,z'⟩:=he.reads I ry;exact SeqAt.compareEq_shaped z z' sd se hu ⟨.bl _,H,I,rfl,q⟩
def Lf(hu:X.A.units+64 < cLine):OpR X (compareOp .NotEq) (Qh X.K):=by
 intro pins s σ H x y v u Q I rx ry h;obtain⟨d,e,hd,he,sd,se,q⟩:=h;obtain⟨as,z⟩:=hd.reads I rx;obtain⟨bs,z'⟩:=he.reads I ry;exact SeqAt.compareNe_shaped z z' sd se hu ⟨.bl _,H,I,rfl,q⟩
end
def CQ{H:Hp}{p:Addr}{o:HO}(h:H p=none):pQ H (upd H p o):=λ b u e=>by
 rw [ah (cz e h)];exact e
def FC{α:Type}(xs:List α)(i:Int)(h0:0<=i)(h1:i < xs.length):∃ v,atI xs i=some v/\v∈xs:=by
 have hl:i.toNat < xs.length:=by omega
 refine⟨xs[i.toNat],?_,Sd hl⟩;have e:((i.toNat:Nat):Int)=i:=by omega
 have:=cH (xs:=xs) (j:=i.toNat) (v:=xs[i.toNat]) (QB hl);rw [e] at this;exact this
def oW(ns:List Int)(i:Int)(h0:0<=i)(h1:i < ns.length):∃ z,atI (ns.map V.int) i=some (.int z)/\z∈ns:=by
 obtain⟨v,e,m⟩:=FC (ns.map V.int) i h0 (by simpa using h1);obtain⟨z,hz,rfl⟩:=QG.mp m;exact⟨z,e,hz⟩
def pM(cells:List (Str × Addr)):List (Str × NameKind)->List (Str × Addr)->List (Str × Addr)
 | [],acc=>acc
 | (n,k)::r,acc=>if (k == .free)=true then pM cells r ((n,(cells.lookup n).getD 0)::acc) else pM cells r acc
def iu{env:Env}:∀ (names:List (Str × NameKind)) (acc:List (Str × Addr)),(∀ y∈names,y.2=.free->∃ c,env.cells.lookup y.1=some c) →
  (forIn names acc (λ (x:Str × NameKind) (cs:List (Str × Addr))=>match x with
   | (name,kind)=>if (kind == .free)=true then (do let a ←cellOf env name;pure (ForInStep.yield ((name,a)::cs))) else (do pure PUnit.unit;pure (ForInStep.yield cs))):Sem (List (Str × Addr)))=pure (pM env.cells names acc)
 | [],acc,_=>rfl
 | (n,k)::r,acc,h=>by
  rw [TX];have hr:∀ y∈r,y.2=.free->∃ c,env.cells.lookup y.1=some c:=λ y hy=>h y (QM _ hy)
  by_cases hk:(k == .free)=true
  ·obtain⟨c,hc⟩:=h (n,k) mem_cons_self (by simpa using hk);have aS:env.cells.lookup n=some c:=hc;simp only [hk,if_true,pM,aS,Option.getD_some];have e:cellOf env n=pure c:=by unfold cellOf;rw [aS]
   rw [e];exact iu r _ hr
  ·simp only [hk,Tq,pM];exact iu r acc hr
def iZ{scope:Scope}{env:Env}(h:∀ y∈scope.names,y.2=.free->∃ c,env.cells.lookup y.1=some c):closureFor scope env=pure (pM env.cells scope.names []):=by
 unfold closureFor;have:=iu (env:=env) scope.names [] h
 first
  | exact(RS (λ m=>m >>= λ cs=>pure cs) this).trans (pure_bind _ _)
  | (simp only [] at this ⊢;rw [this];rfl)
def oR{cells:List (Str × Addr)}{x:Str}{c:Addr}:∀ {names:List (Str × NameKind)}{acc:List (Str × Addr)},(∀ y∈names,y.2=.free->∃ c,cells.lookup y.1=some c)->(pM cells names acc).lookup x=some c->acc.lookup x=some c\/cells.lookup x=some c
 | [],acc,_,h=>.inl h
 | (n,k)::r,acc,hf,h=>by
  have hr:∀ y∈r,y.2=.free->∃ c,cells.lookup y.1=some c:=λ y hy=>hf y (mem_cons_of_mem _ hy);unfold pM at h
  by_cases hk:(k == .free)=true
  ·rw [Rc hk] at h
   rcases oR hr h with q|q
   ·rw [SU] at q
    cases hx:x == n with
    | true=>
     rw [hx] at q;obtain⟨d,hd⟩:=hf (n,k) QP (by simpa using hk);have e:x=n:=by simpa using hx
     subst e;have aS:cells.lookup x=some d:=hd;rw [aS] at q ⊢;exact .inr (by simpa using q)
    | false=>rw [hx] at q;exact .inl q
   ·exact .inr q
  ·rw [Q5 hk] at h;exact oR hr h
def oS{cells:List (Str × Addr)}{x:Str}:∀ {names:List (Str × NameKind)}{acc:List (Str × Addr)},(∀ y∈names,y.2=.free->∃ c,cells.lookup y.1=some c)->(∃ c,acc.lookup x=some c)->∃ c,(pM cells names acc).lookup x=some c
 | [],acc,_,h=>h
 | (n,k)::r,acc,hf,h=>by
  have hr:∀ y∈r,y.2=.free->∃ c,cells.lookup y.1=some c:=λ y hy=>hf y (mem_cons_of_mem _ hy);unfold pM
  by_cases hk:(k == .free)=true
  ·rw [Rc hk];refine oS hr ?_;rw [SU]
   cases hx:x == n with
   | true=>exact⟨_,rfl⟩
   | false=>exact h
  ·rw [Q5 hk];exact oS hr h
def j8{cells:List (Str × Addr)}{x:Str}:∀ {names:List (Str × NameKind)}{acc:List (Str × Addr)},(∀ y∈names,y.2=.free->∃ c,cells.lookup y.1=some c)->names.lookup x=some .free->∃ c,(pM cells names acc).lookup x=some c
 | [],acc,_,h=>by simp at h
 | (n,k)::r,acc,hf,h=>by
  have hr:∀ y∈r,y.2=.free->∃ c,cells.lookup y.1=some c:=λ y hy=>hf y (mem_cons_of_mem _ hy);rw [lookup_cons] at h;unfold pM
  cases hx:x == n with
  | true=>
   rw [hx] at h;have hk:k=.free:=by simpa using h
   subst hk;rw [Rc (show (NameKind.free == NameKind.free)=true from rfl)];refine oS hr ⟨(cells.lookup n).getD 0,?_⟩;rw [SU,hx]
  | false=>
   rw [hx] at h
   by_cases hk:(k == .free)=true
   ·rw [Rc hk];exact j8 hr h
   ·rw [Q5 hk];exact j8 hr h
def gK{x:Str}{k:NameKind}:∀ {names:List (Str × NameKind)},names.lookup x=some k->(x,k)∈names
 | [],h=>by simp at h
 | (n,j)::r,h=>by
  rw [SU] at h
  cases hx:x == n with
  | true=>
   rw [hx] at h;have e:x=n:=by simpa using hx
   have e2:j=k:=by simpa using h
   subst e;subst e2;exact QP
  | false=>rw [hx] at h;exact QM _ (gK h)
def eO{env:Env}{x:Str}:∀ {names:List (Str × NameKind)},
  (names.map λ (n,k)=>if (k == NameKind.free && env.scope.kind == .function && env.kindOf n == some .cell) then (n,NameKind.cell) else (n,k)).lookup x
   = (names.lookup x).map λ k=>if (k == NameKind.free && env.scope.kind == .function && env.kindOf x == some .cell) then NameKind.cell else k
 | []=>rfl
 | (n,k)::r=>by
  have ih:=@eO env x r
  show List.lookup x ((if (k == NameKind.free && env.scope.kind == .function && env.kindOf n == some .cell)=true then (n,NameKind.cell) else (n,k))::_)=_
  cases hx:x == n with
  | true=>
   have e:x=n:=by simpa using hx
   subst e
   by_cases hc:(k == NameKind.free && env.scope.kind == .function && env.kindOf x == some .cell)=true
   ·rw [Rc hc];simp only [SU,T9,Tb];rw [Rc hc]
   ·rw [Q5 hc];simp only [SU,T9,Tb];rw [Q5 hc]
  | false=>
   by_cases hc:(k == NameKind.free && env.scope.kind == .function && env.kindOf n == some .cell)=true
   ·rw [Rc hc];simp only [SU,hx];exact ih
   ·rw [Q5 hc];simp only [SU,hx];exact ih
abbrev cCx(X:Cx)(scope:Scope)(N':List Str)(C:Addr)(s₀:Shared)(H₀:Hp)(ex:List Addr)(pn:List (Addr × Obj)):Cx:=
 { X with N:=N',s₀:=s₀,H₀:=H₀,env:=compEnvC scope (pM X.env.cells scope.names []) C X.env,outer:=X.stack,stack:=X.stack,ex:=ex,fn:=λ _=>false,pn:=pn,xe:=λ _ _=>False }
def PTs(Y:Cx)(ifs:List Expr)(t:TT):Prop:=
 ∀ (pins:List (Addr × Obj)) (s:Shared) (σ:St) (H:Hp) (Q:Bool->Hp->Prop),Inv Y pins σ H s->t σ H Q →
  wpAny (model Y.prog Y.w) Y.A (forIn ifs true λ c r=>if r=true then do let ok ←isTrue c Y.env (eval c Y.env);pure (ForInStep.yield ok) else pure (ForInStep.yield r)) (TP Y pins σ Q) Y.xe s
def O9:TT:=λ _ H Q=>Q true H
def aI{Y:Cx}:PTs Y [] O9:=λ _ _ _ H _ I h=>QI ⟨H,I,h⟩
def nO{Y:Cx}{c:Expr}{t:TT}(h:PT Y c t):PTs Y [c] t:=λ pins s σ H Q I hw=>PySem.wpAny_tests_one (h pins s σ H Q I hw)
def HOk.but{P:Program}{w:World}{H:Hp}{h h':Heap}{C:Addr}(ok:HOk P w H h)(hn:H C=none)(hs:Heap.SameBut C h h'):HOk P w H h':=λ b ob e=>by
 refine(ok b ob e).stay (λ c w' hc q=>(hs.2 c ?_).trans q) (λ _ q=>q) λ _ _ q=>q;rintro rfl
 rcases hc with rfl|hc
 ·rw [hn] at e;cases e
 ·rw [hn] at hc;cases hc
def Un.but{fs ex:List Addr}{H H':Hp}{h h1 h2:Heap}{C:Addr}(u:Un fs ex H H' h h1)(hs:Heap.SameBut C h1 h2)(hC:∀ b o,h.get? b=some o->b ≠ C):Un fs ex H H' h h2 where
 keep:=λ b o e n hb hx=>(hs.2 b (hC b o e)).trans (u.keep b o e n hb hx)
 slot:=λ b o e n hb hx=>by
  obtain⟨sl,q⟩:=u.slot b o e n hb hx;exact⟨sl,(hs.2 b (hC b o e)).trans q⟩
 free:=u.free
 there:=λ b o e hx=>by
  obtain⟨o',q⟩:=u.there b o e hx;exact⟨o',(hs.2 b (hC b o e)).trans q⟩
 tups:=u.tups
 frzs:=u.frzs
 tbls:=u.tbls
section
variable {X:Cx}
def FJ(k:Nat)(wi:TI)(g:TG)(tt:TT)(te:TE):TE:=λ σ H Q=>wi σ H λ J H1=>∀ D,H1 D=none->∃ W:Nat->Nat->List V->Hp->Prop,(∃ m,W 0 m [] (upd H1 D (.lst [])))/\∀ i m ys H,W i m ys H →
 (J.stop i H/\Q (.ref D) H)\/(J.go i H/\∃ N:List V->Hp->Prop,(∀ aS H',N aS H'->∃ m',m' < m/\W (i+1) m' aS H') /\
  ∀ x H',J.yld i H x H'->g x (List.replicate k none++σ) H' λ σ2 H2=>(∃ vs:St,vs.length=k/\σ2=vs++σ)/\tt σ2 H2 λ b H3=>if b=true then te σ2 H3 λ y H4=>H4 D=some (.lst ys)/\ys.length < sizeLine/\N (ys++[y]) (upd H4 D (.lst (ys++[y]))) else N ys H3)
def BH{Y:Cx}{tg elt iter:Expr}{ifs:List Expr}{scope:Scope}{pos:Pos}{it D:Addr}{g:TG}{tt:TT}{te:TE}{J:It}{fp:List Addr}{tn:Nat->Heap->Prop}{k:Nat}{σ:St}{Q:VK}
  (hc:Y.calm=true) (hx:Y.xe=λ _ _=>False) (hg:PG Y tg g) (ht:PTs Y ifs tt) (he:PE Y elt te) (T:B8 Y.prog Y.w Y.K tg J fp it tn) (hf:∀ H:Hp,(∀ b∈fp,H b=none)->∀ b∈fp,r0 Y [] H b)
  (W:Nat->Nat->List V->Hp->Prop)
  (turn:∀ i m ys H,W i m ys H->(J.stop i H/\Q (.ref D) H)\/(J.go i H/\∃ N:List V->Hp->Prop,(∀ aS H',N aS H'->∃ m',m' < m/\W (i+1) m' aS H') /\
   ∀ x H',J.yld i H x H'->g x (List.replicate k none++σ) H' λ σ2 H2=>(∃ vs:St,vs.length=k/\σ2=vs++σ)/\tt σ2 H2 λ b H3=>if b=true then te σ2 H3 λ y H4=>H4 D=some (.lst ys)/\ys.length < sizeLine/\N (ys++[y]) (upd H4 D (.lst (ys++[y]))) else N ys H3))
  (n:Nat) (s:Shared) (h:∃ i ys H,Inv Y [] (List.replicate k none++σ) H s/\tn i s.heap/\(∀ b∈fp,H b=none)/\W i n ys H) :
  codeAny (model Y.prog Y.w) Y.A (.compLoop (.ListComp elt [⟨tg,iter,ifs,0⟩] scope pos) 0 (.ref it) (.ref D) Y.env) (λ r s'=>r=.ok .next/\∃ H',Inv Y [] (List.replicate k none++σ) H' s'/\Q (.ref D) H') s:=by
 refine codeAny_loop rfl (λ n s=>∃ i ys H,Inv Y [] (List.replicate k none++σ) H s/\tn i s.heap/\(∀ b∈fp,H b=none)/\W i n ys H) ?_ n h;rintro n s3 ⟨i,ys,H3,I3,a3,a4,w3⟩
 show wpAny _ Y.A ((compTurn (.ListComp elt [⟨tg,iter,ifs,0⟩] scope pos) 0 (.ref it) (.ref D) Y.env).onRaise (λ x=>do noteFrame x Y.env;theTreesLotGoes x)) _ _ s3
 refine PySem.wpAny_noted ?_;rw [PySem.compTurn_list]
 have no:∀ {α:Type} {m:Sem α} {P:α->Shared->Prop} {E:Value->Shared->Prop} {s:Shared},wpAny (model Y.prog Y.w) Y.A m P Y.xe s->wpAny (model Y.prog Y.w) Y.A m P E s:=λ {α m P E s} h=>
  Ui h (λ _ _ q=>q) λ _ _ q=>by rw [hx] at q;exact q.elim
 refine My (U5 (My ?_))
 rcases turn i n ys H3 w3 with ⟨stop,qn⟩|⟨go,N,hN,step⟩
 ·refine thn (T.done Y rfl rfl rfl hc i [] s3 (List.replicate k none++σ) H3 _ I3 (hf H3 a4) a3 stop) λ r s4 ⟨hr,I4⟩=>?_;subst hr;exact QI ⟨rfl,H3,I4,qn⟩
 ·refine thn (T.item Y rfl rfl rfl hc i [] s3 (List.replicate k none++σ) H3 _ I3 (hf H3 a4) a3 go) λ r s4 ⟨u,hr,h4⟩=>?_;subst hr;refine My (thn h4 λ _ s5 ⟨x,H5,I5,r5,y5,aX,a6⟩=>?_);have a7:=I5.pinned (hf H5 a6) (T.obj _ _ aX);refine My (no (thn (hg _ s5 (List.replicate k none++σ) H5 x u _ a7 r5 (step x H5 y5)) λ _ s6 ⟨σ6,H6,I6,⟨vs,a5,e6⟩,q6⟩=>?_));subst e6
  have forget:∀ {pins:List (Addr × Obj)} {H:Hp} {s:Shared},Inv Y pins (vs++σ) H s->Inv Y pins (List.replicate k none++σ) H s:=λ {pins H s} I=>I.weak (by simp [a5]) λ i v e=>by
   by_cases hi:i < k
   ·rw [Rw (by simpa using hi)] at e;simp [Td,hi] at e
   ·rw [Rn (by simpa using UZ hi)] at e;rw [Rn (by omega)]
    simpa [a5] using e
  refine My (no (thn (ht _ s6 (vs++σ) H6 _ I6 q6) λ b s7 ⟨H7,I7,q7⟩=>?_))
  have again:∀ {H8:Hp} {s8:Shared} {aS:List V},Inv Y ([]++pX fp s5.heap) (vs++σ) H8 s8->N aS H8->∃ m,m < n/\∃ i ys H,Inv Y [] (List.replicate k none++σ) H s8/\tn i s8.heap/\(∀ b∈fp,H b=none)/\W i m ys H:=λ {H8 s8 aS} I8 n8=>by
   obtain⟨m',hm,w8⟩:=hN aS H8 n8;refine⟨m',hm,i+1,aS,H8,forget I8.unpinned,T.keep _ _ _ aX λ b hb o e=>(I8.pin (b,o) (Q8 _ (Q8 _ (gG hb e)))).1,λ b hb=>?_,w8⟩;obtain⟨o,e,d⟩:=T.obj _ _ aX b hb;exact(I8.pin (b,o) (Q8 _ (Q8 _ (gG hb e)))).2.1
  cases b with
  | false=>
   rw [Q5 QS] at q7;exact QI ⟨rfl,again I7 q7⟩
  | true=>
   rw [Rc rfl] at q7;refine My (My (no (thn (he _ s7 (vs++σ) H7 _ I7 q7) λ y s8 ⟨y',H8,I8,ry,q8,l8,n8⟩=>?_)));exact My (no (thn (b8 _ s8 (vs++σ) H8 (.ref D) [y'] (.ref D) [y] (λ _ H'=>N (ys++[y']) H') I8 rfl (.cons ry .nil) ⟨D,ys,y',rfl,rfl,q8,l8,n8⟩) λ _ s9 ⟨_,H9,I9,_,q9⟩=>QI (QI ⟨rfl,again I9 q9⟩)))
structure kj(X:Cx)(scope:Scope)(N':List Str)(k:Nat):Prop where
 cell:∀ y∈scope.names,y.2 ≠ .cell
 kind:scope.kind=.function
 names:∀ y∈scope.names,y.2=.local->scope.names.lookup y.1=some .local
 free:∀ y∈scope.names,y.2=.free->X.env.scope.names.lookup y.1=some .cell
 len:N'.length=k+X.N.length
 sub:∀ i x,N'[k+i]? = some x->scope.names.lookup x=some .free->X.N[i]? = some x
 loc:∀ i x,N'[k+i]? = some x->scope.names.lookup x ≠ some .local
def kj.cells{scope:Scope}{N':List Str}{k:Nat}{pins:List (Addr × Obj)}{σ:St}{H:Hp}{s:Shared}(c:kj X scope N' k)(I:Inv X pins σ H s):∀ y∈scope.names,y.2=.free->∃ a,X.env.cells.lookup y.1=some a:=λ y hy e=>
 I.ok.has y.1 (.inl (c.free y hy e))
def Es{scope:Scope}{N':List Str}{k:Nat}{pins:List (Addr × Obj)}{σ:St}{H:Hp}{s s₄:Shared}{fp:List Addr}{m:Str->Option Value}(c:kj X scope N' k)(hc:X.calm=true)(I:Inv X pins σ H s)
  (hf:∀ b∈fp,r0 X pins H b) (a6:∀ b∈fp,b < s.heap.objs.size) (hb:∀ b∈fp,X.base.get? b=none) (a7:s₄.heap.Ns s.heap.objs.size m) (hk:∀ b o,s.heap.get? b=some o->s₄.heap.get? b=some o) (ho:s₄.os=s.os) (hg:s₄.gens=s.gens) :
  Inv (cCx X scope N' s.heap.objs.size s H fp (X.pn++pins)) [] (List.replicate k none++σ) H s₄:=by
 have a4:=c.cells I
 have sub:∀ x a,(pM X.env.cells scope.names []).lookup x=some a->X.env.cells.lookup x=some a:=λ x a e=>by
  rcases oR a4 e with q|q
  ·simp at q
  ·exact q
 have kinds:∀ x,(compEnvC scope (pM X.env.cells scope.names []) s.heap.objs.size X.env).kindOf x=some .cell\/(compEnvC scope (pM X.env.cells scope.names []) s.heap.objs.size X.env).kindOf x=some .free->scope.names.lookup x=some .free:=λ x hx=>by
  have e:(compEnvC scope (pM X.env.cells scope.names []) s.heap.objs.size X.env).kindOf x=(scope.names.lookup x).map λ k=>if (k == NameKind.free && X.env.scope.kind == .function && X.env.kindOf x == some .cell) then NameKind.cell else k:=eO
  rw [e] at hx
  cases q:scope.names.lookup x with
  | none=>rw [q] at hx;simp at hx
  | some j=>
   rw [q] at hx;have hj:j ≠ .cell:=c.cell (x,j) (gK q)
   cases j<;>simp_all
 have fresh:∀ b,s.heap.objs.size<=b->s.heap.get? b=none:=λ b hb=>UQ hb;have ne:∀ b o,s.heap.get? b=some o->b ≠ s.heap.objs.size:=λ b o e=>QY (QH e)
 have a8:∀ x a,X.env.cells.lookup x=some a->a < s.heap.objs.size:=λ x a e=>by
  obtain⟨v,o,h1,_⟩:=I.cell x a e;exact QH h1
 refine⟨⟨I.ok.mod,c.kind,I.ok.glob,I.ok.blt,QK _,λ x y a e1 e2=>I.ok.inj x y a (sub x a e1) (sub y a e2),λ x hx=>j8 a4 (kinds x hx),(λ _ _ z=>nomatch z),I.ok.hd,I.ok.frames,.inl rfl,λ b a3=>⟨QY (a6 b a3),λ x a e=>(hf b a3).2.2.2.2.1 x a (sub x a e)⟩,
   I.bs,RT I.ok.bsz I.sz,(λ b o e a3=>by rw [hb b a3] at e;cases e),λ b a3 hz=>?_,I.stack,I.stkFree⟩,ho,by rw [hg];exact I.bare,Un.kept hk,⟨m,a7,λ i x v e1 e2 e3=>?_⟩,λ x a e=>?_,I.hok.fresh (QK _),λ x a e=>I.freeC x a (sub x a e),λ p hp=>?_,I.hok.kept hk,?_⟩
 ·rcases Q1.mp (I.stkSub b hz) with z|z
  ·exact(hf b a3).2.1 z
  ·exact(hf b a3).2.2.1 z
 ·have hi:k<=i:=by
   refine UZ λ hi=>?_;rw [Rw (by simpa using hi)] at e2;simp [Td,hi] at e2
  obtain⟨j,rfl⟩:∃ j,i=k+j:=⟨i - k,by omega⟩;rw [Rn (by simp)] at e2;have a9:σ[j]? = some (some v):=by simpa using e2
  have e:(relabel scope X.env).names.lookup x=(scope.names.lookup x).map λ k=>if (k == NameKind.free && X.env.scope.kind == .function && X.env.kindOf x == some .cell) then NameKind.cell else k:=eO
  have aS:scope.names.lookup x=some .free:=by
   cases q:scope.names.lookup x with
   | none=>
    rcases e3 with z|z|z
    all_goals (have z':(relabel scope X.env).names.lookup x=some _:=z;rw [e,q] at z';simp at z')
   | some j'=>
    have h1:j' ≠ .cell:=c.cell (x,j') (gK q);have h2:j' ≠ .local:=λ z=>c.loc j x e1 (by rw [q,z])
    rcases e3 with z|z|z
    all_goals (have z':(relabel scope X.env).names.lookup x=some _:=z;rw [e,q] at z';cases j'<;>simp_all)
  have hX:=c.sub j x e1 aS;have aX:=c.free (x,.free) (gK aS) rfl;obtain⟨m0,b1,bt⟩:=I.loc;obtain⟨u,r,l⟩:=bt j x v hX a9 (.inr (.inl aX));refine⟨u,r,?_⟩
  rcases l with ⟨z,_⟩|⟨_,a,ea,hz⟩
  ·have z':X.env.scope.names.lookup x=some .local:=z;rw [aX] at z';cases z'
  ·obtain⟨a',a5⟩:=j8 (acc:=[]) a4 aS;have e4:=sub x a' a5;rw [ea] at e4;cases e4;refine .inr ⟨.inl ?_,a,a5,?_⟩
   ·show (relabel scope X.env).names.lookup x=some .cell
    rw [e,aS];have k1:(X.env.scope.kind == .function)=true:=by rw [I.ok.kind];rfl
    have k2:(X.env.kindOf x == some .cell)=true:=by
     have:X.env.kindOf x=some .cell:=aX;rw [this];rfl
    simp [k1,k2]
   ·obtain⟨o,h1,h2⟩:=hz;exact⟨o,hk _ _ h1,h2⟩
 ·obtain⟨v,o,h1,h2⟩:=I.cell x a (sub x a e);exact⟨v,o,hk _ _ h1,h2⟩
 ·have bS:p∈X.pn++pins:=by simpa using hp
  obtain⟨e,n,nl,nf,d⟩:=I.pin p bS;refine⟨hk _ _ e,n,ne _ _ e,λ z=>?_,d⟩
  rcases Q1.mp (I.stkSub _ z) with z|z
  ·exact nl z
  ·exact nf z
 ·show (List.replicate k none++σ).length=N'.length
  rw [c.len,QX,R7,I.len]
def m3{elt iter tg:Expr}{ifs:List Expr}{scope:Scope}{pos:Pos}{g:TG}{tt:TT}{te:TE}{N':List Str}{k:Nat}{it:Addr}{J:It}{fp:List Addr}{tn:Nat->Heap->Prop}{pins:List (Addr × Obj)}{σ:St}{H:Hp}{s:Shared}{Q:VK}{RR:Value->Addr->Result->Shared->Prop}{E:Value->Shared->Prop}
  (c:kj X scope N' k) (hc:X.calm=true) (I:Inv X pins σ H s) (T:B8 X.prog X.w X.K tg J fp it tn) (st:tn 0 s.heap) (hf:∀ b∈fp,r0 X pins H b)
  (hg:∀ C s₀ H₀ ex pn,PG (cCx X scope N' C s₀ H₀ ex pn) tg g) (ht:∀ C s₀ H₀ ex pn,PTs (cCx X scope N' C s₀ H₀ ex pn) ifs tt) (he:∀ C s₀ H₀ ex pn,PE (cCx X scope N' C s₀ H₀ ex pn) elt te)
  (h:∀ D,H D=none->∃ W:Nat->Nat->List V->Hp->Prop,(∃ m,W 0 m [] (upd H D (.lst [])))/\∀ i m ys H,W i m ys H →
   (J.stop i H/\Q (.ref D) H)\/(J.go i H/\∃ N:List V->Hp->Prop,(∀ a5 H',N a5 H'->∃ m',m' < m/\W (i+1) m' a5 H') /\
    ∀ x H',J.yld i H x H'->g x (List.replicate k none++σ) H' λ σ2 H2=>(∃ vs:St,vs.length=k/\σ2=vs++σ)/\tt σ2 H2 λ b H3=>if b=true then te σ2 H3 λ y H4=>H4 D=some (.lst ys)/\ys.length < sizeLine/\N (ys++[y]) (upd H4 D (.lst (ys++[y]))) else N ys H3))
  (fin:∀ D C s' H' m,s'.heap.Ns C m->C ≠ X.env.locals->(∀ x a,X.env.cells.lookup x=some a->a ≠ C)->(H' C=none/\X.s₀.heap.objs.size<=C/\∀ p∈X.pn++pins,p.1 ≠ C)->(∀ h',Heap.SameBut C s'.heap h'->Inv X pins σ H' { s' with heap:=h' })->Q (.ref D) H'->RR (.ref D) C (.ok .next) s') :
  wpAny (model X.prog X.w) X.A (newList []) (λ acc s₃=>wpAny (model X.prog X.w) X.A (newFunctionEnv scope X.env.globals (pM X.env.cells scope.names []) [] X.env.qual none .none (some X.env)) (λ a3 s₄=>
   codeAny (model X.prog X.w) X.A (.compStart (.ListComp elt [⟨tg,iter,ifs,0⟩] scope pos) 0 (.ref it) acc { a3 with scope:=relabel scope X.env }) (RR acc a3.locals) s₄) E s₃) E s:=by
 refine wpAny_newObj_type (wpAny_newFunctionEnv c.cell (by intro y hy;simp at hy) (λ h₁ aS aX=>?_) c.kind);dsimp only at aS aX ⊢;have I3:Inv X pins σ (upd H s.heap.objs.size (.lst [])) { s with heap:=s.heap.push { cls:=.type "list",data:=.seq ([]:List Value).toArray },toks:=s.toks }:=I.lnew (ys:=[]) (its:=[]) .nil (Nat.zero_le _);generalize hH2:s.heap.push { cls:=.type "list",dict:=none,data:=.seq ([]:List Value).toArray }=hp at aS aX I3 ⊢;have a6:∀ b o,s.heap.get? b=some o->hp.get? b=some o:=λ b o e=>by rw [←hH2];exact Heap.get?_push_of_some _ e
 have a7:H s.heap.objs.size=none:=I.hok.fresh (QK _);have kp:∀ b o,hp.get? b=some o->h₁.get? b=some o:=λ b o e=>aX.extBut b o (QY (QH e)) (QC _ e)
 have stk:∀ b∈fp,s.heap.get? b ≠ none:=λ b hb z=>by
  obtain⟨o,e,_⟩:=T.obj _ _ st b hb;rw [z] at e;cases e
 have flt:∀ b∈fp,b < s.heap.objs.size:=λ b hb=>by
  obtain⟨o,e,_⟩:=T.obj _ _ st b hb;exact QH e
 have bS:∀ b∈fp,b ≠ s.heap.objs.size:=λ b hb=>QY (flt b hb)
 have a8:∀ b∈fp,r0 X pins (upd H s.heap.objs.size (.lst [])) b:=λ b hb=>by
  obtain⟨a1,a2⟩:=hf b hb;exact⟨by rw [ah (bS b hb)];exact a1,a2⟩
 have b1:∀ b∈fp,X.base.get? b=none:=λ b hb=>by
  cases e:X.base.get? b with
  | none=>rfl
  | some o=>
   rcases (hf b hb).2.2.2.1 with z|z
   ·exact absurd z (I.ok.noex b o e)
   ·have:=QH (I.ok.bs b o e).1;exact absurd (Q0 this z) (Ry _)
 have hsz:s.heap.objs.size < hp.objs.size:=by rw [←hH2,Ri];exact RU _
 have IY:=Es (s₄:={ s with heap:=h₁,toks:=s.toks+([]:List (Str × Value)).length }) (fp:=fp) c hc I3 a8 (λ b hb=>TR (flt b hb) hsz) b1 aS kp rfl rfl;obtain⟨W,⟨m0,w0⟩,turn⟩:=h s.heap.objs.size a7
 have run:=BH (Y:=cCx X scope N' hp.objs.size { s with heap:=hp,toks:=s.toks } (upd H s.heap.objs.size (.lst [])) fp (X.pn++pins)) (tg:=tg) (elt:=elt) (iter:=iter) (ifs:=ifs) (scope:=scope) (pos:=pos) (it:=it) (D:=s.heap.objs.size) (k:=k) (σ:=σ) (Q:=Q)
  hc rfl (hg _ _ _ _ _) (ht _ _ _ _ _) (he _ _ _ _ _) T (λ H' hn b hb=>⟨hn b hb,QY (TR (flt b hb) hsz),λ z=>(IY.ok.exfs b hb) z,.inl hb,λ x a e=>(IY.ok.exf b hb).2 x a e,λ p hp=>by
   have a4:p∈X.pn++pins:=by simpa using hp
   exact(hf b hb).2.2.2.2.2 p a4⟩) W turn m0
 have a9:tn 0 h₁:=T.keep _ _ _ st λ b hb o e=>kp b o (a6 b o e);have go:=run { s with heap:=h₁,toks:=s.toks+([]:List (Str × Value)).length } ⟨0,[],_,IY,a9,λ b hb=>(a8 b hb).1,w0⟩
 have out:∀ r s',(r=Except.ok Flow.next/\∃ H',Inv (cCx X scope N' hp.objs.size { s with heap:=hp,toks:=s.toks } (upd H s.heap.objs.size (.lst [])) fp (X.pn++pins)) [] (List.replicate k none++σ) H' s'/\Q (.ref s.heap.objs.size) H')->RR (.ref s.heap.objs.size) hp.objs.size r s':=by
  rintro r s' ⟨rfl,H',J',q⟩;obtain⟨m,hn,_⟩:=J'.loc;have hC:hp.objs.size ≠ X.env.locals:=RE (Q0 I.lt (Tt hsz));refine fin _ _ s' H' m hn hC (λ x a e=>?_) ⟨J'.free,RT I.sz (Tt hsz),λ p a4=>QY (TR (QH (I.pin p a4).1) hsz)⟩ (λ h' bt=>?_) q
  ·obtain⟨v,o,h1,_⟩:=I.cell x a e;exact QY (TR (QH h1) hsz)
  ·refine I.call' (ch:=fp) ?_ ?_ ?_ J'.bare λ b hb=>⟨(hf b hb).2.2.2.1,(hf b hb).2.1,(hf b hb).2.2.2.2.1,(hf b hb).2.2.2.2.2⟩
   ·exact J'.os
   ·have u1:Un (frs X.stack) fp H (upd H s.heap.objs.size (.lst [])) s.heap hp:=Un.laid a6 (QK _) a7;exact(u1.trans J'.base).but bt λ b o e=>QY (TR (QH e) hsz)
   ·exact J'.hok.but J'.free bt
 exact codeAny_compStart_list (T8 go out) (T.self _ 0 _ _ _ a9 (T8 go out))
def Hq{elt iter tg:Expr}{ifs:List Expr}{scope:Scope}{pos:Pos}{wi:TI}{g:TG}{tt:TT}{te:TE}{N':List Str}{k:Nat}
  (c:kj X scope N' k) (hc:X.calm=true) (hi:PI X tg iter wi)
  (hg:∀ C s₀ H₀ ex pn,PG (cCx X scope N' C s₀ H₀ ex pn) tg g) (ht:∀ C s₀ H₀ ex pn,PTs (cCx X scope N' C s₀ H₀ ex pn) ifs tt) (he:∀ C s₀ H₀ ex pn,PE (cCx X scope N' C s₀ H₀ ex pn) elt te)
  (hs:∀ x,foldedSetIterable iter X.env x=pure x:=by intro _;rfl):PE X (.ListComp elt [⟨tg,iter,ifs,0⟩] scope pos) (FJ k wi g tt te):=by
 intro pins s σ H Q I h;rw [PySem.eval_ListComp];refine US (use:=none) rfl hs (iZ (c.cells I)) c.kind c.names (thn (hi pins s σ H _ I h) λ v s1 h1=>thn h1 λ a3 s2 h2=>?_);obtain⟨it,fp,tn,J,H2,rfl,I2,T,aS,f2,hW⟩:=h2;refine m3 (RR:=λ acc C=>PySem.compPost (model X.prog X.w) X.A X.xe none (EP X pins σ Q) acc C) c hc I2 T aS f2 hg ht he hW ?_;intro D C s' H' m hn _ _ _ hI q;exact⟨m,hn,λ h' aX=>⟨.ref D,H',hI h' aX,rfl,q⟩⟩
def J4(i:Nat)(te:TE):TS:=λ D σ H=>te σ H λ x H1=>D.nx (σ.set i (some x)) H1
def Hg{elt iter tg:Expr}{ifs:List Expr}{scope:Scope}{pos aS py:Pos}{wi:TI}{g:TG}{tt:TT}{te:TE}{N':List Str}{k i:Nat}{y:Str}
  (hN:X.N.Nodup) (a5:X.N[i]? = some y) (hy:Loc X.env.scope y)
  (c:kj X scope N' k) (hc:X.calm=true) (hi:PI X tg iter wi)
  (hg:∀ C s₀ H₀ ex pn,PG (cCx X scope N' C s₀ H₀ ex pn) tg g) (ht:∀ C s₀ H₀ ex pn,PTs (cCx X scope N' C s₀ H₀ ex pn) ifs tt) (he:∀ C s₀ H₀ ex pn,PE (cCx X scope N' C s₀ H₀ ex pn) elt te)
  (a6:swapsWith (.ListComp elt [⟨tg,iter,ifs,0⟩] scope pos) (some (.Name y py)) aS.line X.env=pure true:=by rfl)
  (hs:∀ x,foldedSetIterable iter X.env x=pure x:=by intro _;rfl) (hf:X.fn y=true\/X.env.scope.names.lookup y=some .local:=by first|exact .inl rfl|exact .inr rfl|assumption) :
  PS X (.Assign [.Name y py] (.ListComp elt [⟨tg,iter,ifs,0⟩] scope pos) aS) (J4 i (FJ k wi g tt te)):=by
 intro pins s σ H D I h;rw [PySem.exec_Assign_Name_used _ _ _ _ a6];refine My (U5 (My ?_))
 show wpAny _ X.A (do let _ ←comprehension (.ListComp elt [⟨tg,iter,ifs,0⟩] scope pos) scope X.env _ (newList []) false (eval iter X.env) (some (assign (.Name y py) X.env))) _ _ s
 refine My (thn (US (use:=some (assign (.Name y py) X.env)) (Q:=λ _ s'=>SP X pins D .next s') rfl hs (iZ (c.cells I)) c.kind c.names (thn (hi pins s σ H _ I h) λ v s1 h1=>thn h1 λ b1 s2 h2=>?_)) λ _ s' hq=>QI (QI hq));obtain⟨it,fp,tn,J,H2,rfl,I2,T,a7,f2,hW⟩:=h2;refine m3 (Q:=λ x H1=>D.nx (σ.set i (some x)) H1) (RR:=λ acc C=>PySem.compPost (model X.prog X.w) X.A X.xe (some (assign (.Name y py) X.env)) (λ _ s'=>SP X pins D .next s') acc C) c hc I2 T a7 f2 hg ht he hW ?_;intro D' C s' H' m hn a3 a4 aX hI q
 show wpAny _ X.A (assign (.Name y py) X.env (.ref D')) _ _ s'
 have I':Inv X pins σ H' s':=hI s'.heap (Heap.SameBut.refl _ _);refine wpAny_assign_Name (qh I' hN a5 hy (show bF (.ref D') (.ref D') from rfl) (λ a8 a9 ⟨a,sb,ha⟩=>?_) hf)
 have bt:C ≠ a:=by
  rcases ha with rfl|ha
  ·exact a3
  ·exact λ z=>a4 _ _ ha z.symm
 refine⟨m,hn.sameBut sb bt,λ h' bS=>⟨_,H',?_,q⟩⟩;exact a9.turned (t':=a8.toks) (λ b o hb e=>(bS.2 b hb).trans e) aX.1 a3 (.inr aX.2.1) a4 aX.2.2
end
section
variable {M:Model}{A:Around}{E:Value->Shared->Prop}{s:Shared}
end
section
variable {X:Cx}
set_option genInjectivity false in
def La(K:W.Frag)(C:Addr)(z:Option Value)(bmB:List Value)(newId:String):Bool:=match K.lookup C with
 | some ⟨.type "type",_,.cls dat,slt⟩=>(match dat.mro,slt.toList with
  | .ref C'::up,[_,_,_,_,some (.builtin n),_]=>C' == C && n == newId && !dat.hasDel && W.tailIn K bmB up && W.nsOkIn K dat.ns && W.nsIn K dat.ns "__init__" == some z
  | _,_=>false)
 | _=>false
end
structure Nk(K:W.Frag)(x qual:Str)(st:Stmt)(f:Addr)(fd:FuncData):Prop where
 ex:∃ (oc:Value) (od:Option Addr) (dV kV doc pm:Value) (an:Option Addr) (cdv ct:Value) (osl:Array (Option Value)),
  fd=W.fnOf x qual (eD st) (di st) (aa st) dV kV doc pm an cdv ct/\K.lookup f=some ⟨oc,od,.func fd,osl⟩/\W.codeIn K cdv qual=true
 kp:W.keepIn K (.ref f)=true
section
variable {P:Program}{w:World}{K:PySem.W.Frag}{mg:Str->Option Value}{base:Heap}
def Nk.ok{CX:CXT}{x qual:Str}{st:Stmt}{f:Addr}{fd:FuncData}{N ps:List Str}{k:Nat}{sp:Sp}(F:Nk K x qual st f fd)(S:ag N ps (aa st))(len:∀ vs H Q E,sp vs H Q E->vs.length=ps.length)
  (aS:∀ (cdv:Value) (A:Around) (outer:List Env) (s:Shared) (H:Hp) (vs:List V) (Q:VK) (E:XK),jN k (A.deeper (envOfC qual (aa st) s.heap.objs.size f cdv))->sp vs H Q E →
   ∃ t,PSs (E3 CX P w K mg base N qual (aa st) f cdv A outer s H E) (di st) t/\t { nx:=λ _ H'=>Q .non H',rt:=Q } (aw N vs) H):bj P w K mg base CX (k+1) f fd ps sp:=by
 obtain⟨oc,od,dV,kV,doc,pm,an,cdv,ct,osl,rfl,lk,aX⟩:=F.ex;exact KG lk aX S len λ A outer s H vs Q E hr a3=>aS cdv A outer s H vs Q E hr a3
def Jy{x qual:Str}{st:Stmt}{f:Addr}{oc:Value}{od an:Option Addr}{osl:Array (Option Value)}{dV kV doc pm cdv ct:Value}(l:K.lookup f=some ⟨oc,od,.func (W.fnOf x qual (eD st) (di st) (aa st) dV kV doc pm an cdv ct),osl⟩)
  (c:W.codeIn K cdv qual=true) (k:W.keepIn K (.ref f)=true):Nk K x qual st f (W.fnOf x qual (eD st) (di st) (aa st) dV kV doc pm an cdv ct):=⟨⟨oc,od,dV,kV,doc,pm,an,cdv,ct,osl,rfl,l,c⟩,k⟩
end
open PySem.W
section
variable {prog:Program}{w:World}{A:Around}{E:Value->Shared->Prop}{s:Shared}{K:PySem.W.Frag}{x C:Addr}{ox:Obj}{od:Option Obj}{name:Str}
end
structure Cr(X:Cx)(pins:List (Addr × Obj))(e:Addr):Prop where
 s0:X.s₀.heap.get? e=none
 loc:e ≠ X.env.locals
 cel:∀ x c,X.env.cells.lookup x=some c->c ≠ e
 fs:e ∉ X.fs
 pin:∀ p∈X.pn++pins,p.1 ≠ e
section
variable {X:Cx}
end
def yq(K:Frag)(C fI:Addr)(bmB:List Value)(newId:String):Bool:=La K C (some (.ref fI)) bmB newId
section
variable {prog:Program}{w:World}{A:Around}{R:Result->Shared->Prop}{h:Heap}{g:Array GenState}{d:Drawn}{t:Nat}{os:OsState}{K:Frag}
variable {nm q:Str}{C N fI:Addr}{bs bm bmB:List Value}{hdct:Bool}{sn:List Str}{sub:List Value}{ab:Bool}{col:Option Bool}{dd:Option Addr}{k0 k1 k2 k3 k5:Option Value}{B Bn newId nid initId inN:String}{bmN:List Value}
end
def va:List Value->List Value
 | .ref _::r=>va r
 | l=>l
def HC(l:List Value):Bool:=va l == [.type "ValueError",.type "Exception",.type "BaseException",.type "object"]
def sW(K:Frag)(C:Addr):Bool:=(clsIn K C).any λ cd=>HC cd.mro && cd.mro.contains (.type "object")
structure MW(K:Frag)(C:Addr):Prop where
 ov:sW K C=true
 sa:findIn K (.ref C) "__setattr__"=some (some (.builtin "object.__setattr__"))
 hd:hasDictIn K C=true
section
variable {prog:Program}{w:World}{A:Around}{E:Value->Shared->Prop}{K:Frag}{x C:Addr}{s:Shared}{name:Str}{v:Value}
end
section
variable {prog:Program}{w:World}{A:Around}{E:Value->Shared->Prop}{s:Shared}{K:PySem.W.Frag}{x C dx:Addr}{ox:Obj}{od:Option Obj}{name:Str}{mA:Str->Option Value}{u:Value}
end
section
variable {prog:Program}{w:World}{A:Around}{E:Value->Shared->Prop}{h:Heap}{g:Array GenState}{d:Drawn}{t:Nat}{os:OsState}{e a0:Addr}{dct:Option Addr}
variable {nm q:Str}{C N:Addr}{bs bm bmB:List Value}{hdct:Bool}{sn:List Str}{sub:List Value}{ab:Bool}{col:Option Bool}{dd:Option Addr}{k0 k1 k2 k3 k5:Option Value}{B newId nid initId:String}
end
structure P7(K:W.Frag)(C fI:Addr):Prop where
 ex:yq K C fI [.type "ValueError",.type "Exception",.type "BaseException",.type "object"] "ValueError.__new__"=true
 fn:typeIn K (.ref fI)=some (.type "function")
 st:MW K C
section
variable {X:Cx}{pins:List (Addr × Obj)}{σ:St}{H:Hp}{s:Shared}
def Inv.adopt{a:Addr}{o:HO}(I:Inv X pins σ H s)(N:Cr X pins a)(hn:H a=none)(new:cF X.prog X.w (upd H a o) s.heap a o):Inv X pins σ (upd H a o) s:=by
 have ne:∀ {b:Addr} {u:HO},H b=some u->b ≠ a:=λ q z=>by rw [z,hn] at q;cases q
 refine⟨I.ok,I.os,I.bare,⟨I.base.keep,I.base.slot,λ b u q n hx=>?_,I.base.there,λ b xs q=>?_,λ b u v q=>?_,λ b ps q=>?_⟩,I.loc,I.cell,?_,λ x c q=>?_,λ p hp=>?_,λ b u q=>?_,I.len⟩
 ·rw [ah (λ z=>by rw [z,N.s0] at q;cases q)];exact I.base.free b u q n hx
 ·have z:=I.base.tups b xs q;rw [ah (ne z)];exact z
 ·have z:=I.base.frzs b u v q;rw [ah (ne z)];exact z
 ·obtain⟨m,z⟩:=I.base.tbls b ps q;exact⟨m,by rw [ah (ne z)];exact z⟩
 ·rw [ah (QQ N.loc)];exact I.free
 ·rw [ah (N.cel x c q)];exact I.freeC x c q
 ·obtain⟨a1,b1,c1,d1,f1⟩:=I.pin p hp;exact⟨a1,by rw [ah (N.pin p hp)];exact b1,c1,d1,f1⟩
 ·by_cases hb:b=a
  ·subst hb;rw [ar] at q;cases q;exact new
  ·rw [ah hb] at q;exact(I.hok b u q).stay (λ _ _ _ r=>r) (λ c r=>by rw [ah (ne r)];exact r) λ c xs r=>by rw [ah (ne r)];exact r
def Inv.newAt{a:Addr}(I:Inv X pins σ H s)(ha:s.heap.objs.size<=a):Cr X pins a where
 s0:=UQ (RT I.sz ha)
 loc:=RE (Q0 I.lt ha)
 cel:=λ x c e z=>by
  obtain⟨v,o,q,_⟩:=I.cell x c e;exact absurd (Q0 (QH q) (by rw [z];exact ha)) (Ry _)
 fs:=I.nofs ha
 pin:=λ p hp z=>absurd (Q0 (QH (I.pin p hp).1) (by rw [z];exact ha)) (Ry _)
structure O7(K:W.Frag)(B:Addr):Prop where
 sp:specialIn K (.ref B) "__getattribute__"=some (some (.builtin "type.__getattribute__"))
 rd:readsIn K B (.type "type")=true
 fc:findCls K (.ref B) (.type "type") "__init__"=some (.val (.builtin "ValueError.__init__"))
end
section
variable {X:Cx}{e o value:Expr}{ta tv:TE}{f:Str}{pos pos':Pos}
end
def del(H:Hp)(e:Addr):Hp:=λ b=>if b=e then none else H b
section
variable {X:Cx}
end
def Jx{a:Option V}{v:V}{σ:St}{H:Hp}{Q:St->Hp->Prop}:iC 0 v (a::σ) H Q=Q (some v::σ) H:=rfl
def Jw{a0:Option V}{a:Option V}{v:V}{σ:St}{H:Hp}{Q:St->Hp->Prop}:iC 1 v (a0::a::σ) H Q=Q (a0::some v::σ) H:=rfl
def Jv{a0 a1:Option V}{a:Option V}{v:V}{σ:St}{H:Hp}{Q:St->Hp->Prop}:iC 2 v (a0::a1::a::σ) H Q=Q (a0::a1::some v::σ) H:=rfl
def Ju{a0 a1 a2:Option V}{a:Option V}{v:V}{σ:St}{H:Hp}{Q:St->Hp->Prop}:iC 3 v (a0::a1::a2::a::σ) H Q=Q (a0::a1::a2::some v::σ) H:=rfl
def Jt{a0 a1 a2 a3:Option V}{a:Option V}{v:V}{σ:St}{H:Hp}{Q:St->Hp->Prop}:iC 4 v (a0::a1::a2::a3::a::σ) H Q=Q (a0::a1::a2::a3::some v::σ) H:=rfl
def Js{a0 a1 a2 a3 a4:Option V}{a:Option V}{v:V}{σ:St}{H:Hp}{Q:St->Hp->Prop}:iC 5 v (a0::a1::a2::a3::a4::a::σ) H Q=Q (a0::a1::a2::a3::a4::some v::σ) H:=rfl
def Jr{a0 a1 a2 a3 a4 a5:Option V}{a:Option V}{v:V}{σ:St}{H:Hp}{Q:St->Hp->Prop}:iC 6 v (a0::a1::a2::a3::a4::a5::a::σ) H Q=Q (a0::a1::a2::a3::a4::a5::some v::σ) H:=rfl
def Jq{a0 a1 a2 a3 a4 a5 a6:Option V}{a:Option V}{v:V}{σ:St}{H:Hp}{Q:St->Hp->Prop}:iC 7 v (a0::a1::a2::a3::a4::a5::a6::a::σ) H Q=Q (a0::a1::a2::a3::a4::a5::a6::some v::σ) H:=rfl
def Jp{a0 a1 a2 a3 a4 a5 a6 a7:Option V}{a:Option V}{v:V}{σ:St}{H:Hp}{Q:St->Hp->Prop}:iC 8 v (a0::a1::a2::a3::a4::a5::a6::a7::a::σ) H Q=Q (a0::a1::a2::a3::a4::a5::a6::a7::some v::σ) H:=rfl
def Jo{a0 a1 a2 a3 a4 a5 a6 a7 a8:Option V}{a:Option V}{v:V}{σ:St}{H:Hp}{Q:St->Hp->Prop}:iC 9 v (a0::a1::a2::a3::a4::a5::a6::a7::a8::a::σ) H Q=Q (a0::a1::a2::a3::a4::a5::a6::a7::a8::some v::σ) H:=rfl
def aH{α:Type}:Option α->(α->Prop)->Prop
 | some x,k=>k x
 | none,_=>False
def iM{α:Type}(x:α)(k:α->Prop):aH (some x) k=k x:=rfl
def ai{α:Type}{o:Option α}{k:α->Prop}(h:aH o k):∃ x,o=some x/\k x:=by
 cases o with
 | none=>exact h.elim
 | some x=>exact⟨x,rfl,h⟩
def M5:HO->Option (List V)
 | .lst xs=>some xs
 | .tup xs=>some xs
 | .frz _ (.lst xs)=>some xs
 | _=>none
def NB:HO->Option (List V)
 | .lst xs=>some xs
 | _=>none
def Nm:HO->Option (List V)
 | .tup xs=>some xs
 | _=>none
def dh(H:Hp)(p:Addr):Option (List V):=(H p).bind M5
def az(H:Hp)(p:Addr):Option (List V):=(H p).bind NB
def ke(H:Hp)(p:Addr):Option (List V):=(H p).bind Nm
def CP(xs:List V):M5 (.lst xs)=some xs:=rfl
def CO(xs:List V):M5 (.tup xs)=some xs:=rfl
def DS(xs:List V):NB (.lst xs)=some xs:=rfl
def CL(xs:List V):Nm (.tup xs)=some xs:=rfl
def xr{α β:Type}(x:α)(f:α->Option β):(some x).bind f=f x:=rfl
abbrev Ext(H H':Hp):Prop:=(∀ a,(H a).isSome=true->H' a=H a)/\∀ (K:PySem.W.Frag) a xs,SqL K H a xs->SqL K H' a xs
def JZ(r:R2)(x:V)(Q:VK):VK:=λ y H=>r x y H Q
def Ft(r:R2)(x y:V)(H:Hp)(Q:VK):(JZ r x Q y H)=(r x y H Q):=rfl
def kOp(r:R2)(tb:TE)(σ:St)(Q:VK):VK:=λ x H=>tb σ H (JZ r x Q)
def OP(r:R2)(tb:TE)(σ:St)(Q:VK)(x:V)(H:Hp):(kOp r tb σ Q x H)=(tb σ H (JZ r x Q)):=rfl
def Ou(r:R2)(ta tb:TE)(σ:St)(H:Hp)(Q:VK):(tOp r ta tb σ H Q)=(ta σ H (kOp r tb σ Q)):=rfl
def Qm(v:V)(σ:St)(H:Hp)(Q:VK):(tC v σ H Q)=(Q v H):=rfl
def kUn(r:V->Hp->VK->Prop)(Q:VK):VK:=λ x H=>r x H Q
def OK(r:V->Hp->VK->Prop)(Q:VK)(x:V)(H:Hp):(kUn r Q x H)=(r x H Q):=rfl
def Oo(r:V->Hp->VK->Prop)(ta:TE)(σ:St)(H:Hp)(Q:VK):(tUn r ta σ H Q)=(ta σ H (kUn r Q)):=rfl
def Pj:R2:=λ x y H Q=>y=.non/\Q (.bl (decide (x=.non))) H
def xy:R2:=λ x y H Q=>y=.non/\Q (.bl (!decide (x=.non))) H
def wB(H:Hp)(Q:VK):Pj (.non) .non H Q=Q (.bl true) H:=propext ⟨λ h=>h.2,λ h=>⟨rfl,h⟩⟩
def tS(H:Hp)(Q:VK):xy (.non) .non H Q=Q (.bl false) H:=propext ⟨λ h=>h.2,λ h=>⟨rfl,h⟩⟩
def tT(i:Int)(H:Hp)(Q:VK):xy (.int i) .non H Q=Q (.bl true) H:=propext ⟨λ h=>h.2,λ h=>⟨rfl,h⟩⟩
def tR(i:Addr)(H:Hp)(Q:VK):xy (.ref i) .non H Q=Q (.bl true) H:=propext ⟨λ h=>h.2,λ h=>⟨rfl,h⟩⟩
def Kt(Q:Bool->Hp->Prop):VK:=λ x H=>∃ k,x=.bl k/\Q k H
def PB(Q:Bool->Hp->Prop):Bool->Hp->Prop:=λ c H=>Q (!c) H
def L3(Q:Bool->Hp->Prop)(c:Bool)(H:Hp):(PB Q c H)=(Q (!c) H):=rfl
def LA(t:TT)(σ:St)(H:Hp)(Q:Bool->Hp->Prop):(Pc t σ H Q)=(t σ H (PB Q)):=rfl
def PV(u:TT)(σ:St)(Q:Bool->Hp->Prop):Bool->Hp->Prop:=λ c H=>if c=true then u σ H Q else Q false H
def Mv(u:TT)(σ:St)(Q:Bool->Hp->Prop)(c:Bool)(H:Hp):(PV u σ Q c H)=(if c=true then u σ H Q else Q false H):=rfl
def LH(t u:TT)(σ:St)(H:Hp)(Q:Bool->Hp->Prop):(Pg t u σ H Q)=(t σ H (PV u σ Q)):=rfl
def kOr(u:TT)(σ:St)(Q:Bool->Hp->Prop):Bool->Hp->Prop:=λ c H=>if c=true then Q true H else u σ H Q
def OO(u:TT)(σ:St)(Q:Bool->Hp->Prop)(c:Bool)(H:Hp):(kOr u σ Q c H)=(if c=true then Q true H else u σ H Q):=rfl
def Ot(t u:TT)(σ:St)(H:Hp)(Q:Bool->Hp->Prop):(tOr t u σ H Q)=(t σ H (kOr u σ Q)):=rfl
def O0(tb:TE)(σ:St)(Q:VK):VK:=λ x H=>∃ c,x=.bl c/\if c=true then tb σ H Q else Q (.bl false) H
def OW(Q:VK):VK:=λ x H=>∃ c,x=.bl c/\Q (.bl (!c)) H
def PD(ta tb:TE)(σ:St)(Q:VK):Bool->Hp->Prop:=λ c H=>if c=true then ta σ H Q else tb σ H Q
def Mb(ta tb:TE)(σ:St)(Q:VK)(c:Bool)(H:Hp):(PD ta tb σ Q c H)=(if c=true then ta σ H Q else tb σ H Q):=rfl
def Ox(t:TT)(ta tb:TE)(σ:St)(H:Hp)(Q:VK):(tIf t ta tb σ H Q)=(t σ H (PD ta tb σ Q)):=rfl
def Ni(r':R2)(y:V)(Q:VK):VK:=λ w H=>r' y w H Q
def Mm(r':R2)(y w:V)(Q:VK)(H:Hp):(Ni r' y Q w H)=(r' y w H Q):=rfl
def NV(r':R2)(tc:TE)(σ:St)(y:V)(Q:VK):VK:=λ z H=>∃ k,z=.bl k/\(if k=true then tc σ H (Ni r' y Q) else Q (.bl false) H)
def PN(r r':R2)(tc:TE)(σ:St)(x:V)(Q:VK):VK:=λ y H=>r x y H (NV r' tc σ y Q)
def Qu(r r':R2)(tb tc:TE)(σ:St)(Q:VK):VK:=λ x H=>tb σ H (PN r r' tc σ x Q)
def LB(σ:St)(H:Hp)(Q:List V->Hp->Prop):(JU σ H Q)=(Q [] H):=rfl
def yn(x:V)(Q:List V->Hp->Prop):List V->Hp->Prop:=λ xs H=>Q (x::xs) H
def DQ(x:V)(Q:List V->Hp->Prop)(xs:List V)(H:Hp):(yn x Q xs H)=(Q (x::xs) H):=rfl
def Ky(tr:TA)(σ:St)(Q:List V->Hp->Prop):VK:=λ x H=>tr σ H (yn x Q)
def IG(tr:TA)(σ:St)(Q:List V->Hp->Prop)(x:V)(H:Hp):(Ky tr σ Q x H)=(tr σ H (yn x Q)):=rfl
def HJ(ta:TE)(tr:TA)(σ:St)(H:Hp)(Q:List V->Hp->Prop):(Cc ta tr σ H Q)=(ta σ H (Ky tr σ Q)):=rfl
def xD(sp:Sp)(dvs:List V)(E:XK)(Q:VK):List V->Hp->Prop:=λ vs H=>sp (vs++dvs) H Q E
def A8(v0:V)(sp:Sp)(dvs:List V)(E:XK)(Q:VK)(H:Hp):xD sp dvs E Q [v0] H=sp (v0::dvs) H Q E:=rfl
def A7(v0 v1:V)(sp:Sp)(dvs:List V)(E:XK)(Q:VK)(H:Hp):xD sp dvs E Q [v0,v1] H=sp (v0::v1::dvs) H Q E:=rfl
def A6(v0 v1 v2:V)(sp:Sp)(dvs:List V)(E:XK)(Q:VK)(H:Hp):xD sp dvs E Q [v0,v1,v2] H=sp (v0::v1::v2::dvs) H Q E:=rfl
def A5(v0 v1 v2 v3:V)(sp:Sp)(dvs:List V)(E:XK)(Q:VK)(H:Hp):xD sp dvs E Q [v0,v1,v2,v3] H=sp (v0::v1::v2::v3::dvs) H Q E:=rfl
def HL(sp:Sp)(dvs:List V)(E:XK)(t:TA)(σ:St)(H:Hp)(Q:VK):(Ka sp dvs E t σ H Q)=(t σ H (xD sp dvs E Q)):=rfl
def kCB(r:List V->Hp->VK->Prop)(Q:VK):List V->Hp->Prop:=λ vs H=>r vs H Q
def OU(r:List V->Hp->VK->Prop)(Q:VK)(vs:List V)(H:Hp):(kCB r Q vs H)=(r vs H Q):=rfl
def Oy(r:List V->Hp->VK->Prop)(t:TA)(σ:St)(H:Hp)(Q:VK):(tCB r t σ H Q)=(t σ H (kCB r Q)):=rfl
def HG(nx:St->Hp->Prop)(rt:VK)(bk ct:St->Hp->Prop)(σ:St)(H:Hp):(J7 ⟨nx,rt,bk,ct⟩ σ H)=(nx σ H):=rfl
def Ly(t u:TS)(nx:St->Hp->Prop)(rt:VK)(bk ct:St->Hp->Prop)(σ:St)(H:Hp):(Pa t u ⟨nx,rt,bk,ct⟩ σ H)=(t ⟨u ⟨nx,rt,bk,ct⟩,rt,bk,ct⟩ σ H):=rfl
def Lz(te:TE)(nx:St->Hp->Prop)(rt:VK)(bk ct:St->Hp->Prop)(σ:St)(H:Hp):(Pb te ⟨nx,rt,bk,ct⟩ σ H)=(te σ H rt):=rfl
def Kx(nx:St->Hp->Prop)(σ:St):VK:=λ x H=>nx σ H
def IF(nx:St->Hp->Prop)(σ:St)(x:V)(H:Hp):(Kx nx σ x H)=(nx σ H):=rfl
def HH(te:TE)(nx:St->Hp->Prop)(rt:VK)(bk ct:St->Hp->Prop)(σ:St)(H:Hp):(J8 te ⟨nx,rt,bk,ct⟩ σ H)=(te σ H (Kx nx σ)):=rfl
def PC(t u:TS)(D:ux)(σ:St):Bool->Hp->Prop:=λ b H=>if b=true then t D σ H else u D σ H
def Ma(t u:TS)(D:ux)(σ:St)(b:Bool)(H:Hp):(PC t u D σ b H)=(if b=true then t D σ H else u D σ H):=rfl
def pZ(c:TT)(t u:TS)(D:ux)(σ:St)(H:Hp):(M0 c t u D σ H)=(c σ H (PC t u D σ)):=rfl
def PR(g:TG)(σ:St)(nx:St->Hp->Prop):VK:=λ x H=>g x σ H nx
def Mt(g:TG)(σ:St)(nx:St->Hp->Prop)(x:V)(H:Hp):(PR g σ nx x H)=(g x σ H nx):=rfl
def LG(te:TE)(g:TG)(nx:St->Hp->Prop)(rt:VK)(bk ct:St->Hp->Prop)(σ:St)(H:Hp):(Nn te g ⟨nx,rt,bk,ct⟩ σ H)=(te σ H (PR g σ nx)):=rfl
def kGs(u:TGs)(r:List V)(Q:St->Hp->Prop):St->Hp->Prop:=λ σ' H'=>u r σ' H' Q
def OS(u:TGs)(r:List V)(Q:St->Hp->Prop)(σ:St)(H:Hp):(kGs u r Q σ H)=(u r σ H Q):=rfl
section
variable {X:Cx}
def OpR.mono{f:Value->Value->Sem Value}{r r':R2}(h:OpR X f r)(m:∀ x y H Q,r' x y H Q->r x y H Q):OpR X f r':=λ pins s σ H x y v u Q I rx ry hq=>h pins s σ H x y v u Q I rx ry (m _ _ _ _ hq)
def cn.mono{f:Value}{r r':List V->Hp->VK->Prop}(h:cn X f r)(m:∀ xs H Q,r' xs H Q->r xs H Q):cn X f r':=λ pins s σ H xs us Q I rx hq=>h pins s σ H xs us Q I rx (m _ _ _ hq)
def IxR.mono{r r':R2}(h:IxR X r)(m:∀ x y H Q,r' x y H Q->r x y H Q):IxR X r':=λ a b pins s σ H x y v u Q I rx ry hq=>h a b pins s σ H x y v u Q I rx ry (m _ _ _ _ hq)
def SlR.mono{r r':V->Option Int->Option Int->Hp->VK->Prop}(h:SlR X r)(m:∀ x lo hi H Q,r' x lo hi H Q->r x lo hi H Q):SlR X r':=λ pins s σ H x v vl vu lo hi sl Q I rx a b c hq=>h pins s σ H x v vl vu lo hi sl Q I rx a b c (m _ _ _ _ _ hq)
def PG.mono{tg:Expr}{g g':TG}(h:PG X tg g)(m:∀ v σ H Q,g' v σ H Q->g v σ H Q):PG X tg g':=λ pins s σ H v u Q I r hq=>h pins s σ H v u Q I r (m _ _ _ _ hq)
def iQ{K:W.Frag}{H:Hp}{p:Addr}{ys:List V}(h:dh H p=some ys):SqL K H p ys\/SqT K H p ys:=by
 unfold dh at h
 cases e:H p with
 | none=>rw [e] at h;cases h
 | some o=>
  rw [e] at h;have h':M5 o=some ys:=h
  cases o with
  | lst xs=>cases h';exact .inl (SqL.of e)
  | tup xs=>cases h';exact .inr (SqT.of e)
  | frz ob u=>
   cases u with
   | lst xs=>cases h';exact .inl (.inl (.inr ⟨ob,e⟩))
   | _=>cases h'
  | _=>cases h'
def bp{H:Hp}{p:Addr}{ys:List V}(h:az H p=some ys):H p=some (.lst ys):=by
 unfold az at h
 cases e:H p with
 | none=>rw [e] at h;cases h
 | some o=>
  rw [e] at h;have h':NB o=some ys:=h
  cases o with
  | lst xs=>cases h';rfl
  | _=>cases h'
def uA{H:Hp}{p:Addr}{ys:List V}(h:ke H p=some ys):H p=some (.tup ys):=by
 unfold ke at h
 cases e:H p with
 | none=>rw [e] at h;cases h
 | some o=>
  rw [e] at h;have h':Nm o=some ys:=h
  cases o with
  | tup xs=>cases h';rfl
  | _=>cases h'
def NJ(H:Hp)(Q:VK):List V->Prop:=λ ys=>Q (.int ys.length) H
def L6(H:Hp)(Q:VK)(ys:List V):NJ H Q ys=Q (.int ys.length) H:=rfl
def Nw(xs:List V)(H:Hp)(Q:VK):Prop:=match xs with
 | [.ref p]=>aH (dh H p) (NJ H Q)
 | [.str z]=>z.length<=sizeLine/\Q (.int z.length) H
 | _=>False
def LO(p:Addr)(H:Hp)(Q:VK):Nw [.ref p] H Q=aH (dh H p) (NJ H Q):=rfl
def ak:cn X (.builtin "len") Nw:=by
 refine(eu.or rO).mono λ xs H Q h=>?_;unfold Nw at h;split at h
 ·rename_i p;obtain⟨ys,e,q⟩:=ai h;exact .inl ⟨p,ys,rfl,iQ e,q⟩
 ·rename_i z;exact .inr ⟨z,rfl,h.1,h.2⟩
 ·exact h.elim
def NK(H:Hp)(Q:VK):V->Prop:=λ v=>Q v H
def L8(H:Hp)(Q:VK)(v:V):NK H Q v=Q v H:=rfl
def kIx(i:Int)(H:Hp)(Q:VK):List V->Prop:=λ ys=>aH (atI ys i) (NK H Q)
def OR(i:Int)(H:Hp)(Q:VK)(ys:List V):kIx i H Q ys=aH (atI ys i) (NK H Q):=rfl
def qIx:R2:=λ x y H Q=>match x,y with
 | .ref p,.int i=>aH (dh H p) (kIx i H Q)
 | _,_=>False
def OA(p:Addr)(i:Int)(H:Hp)(Q:VK):qIx (.ref p) (.int i) H Q=aH (dh H p) (kIx i H Q):=rfl
def bY:IxR X qIx:=by
 refine(sU.or MJ).mono λ x y H Q h=>?_;unfold qIx at h;split at h
 ·rename_i p i;obtain⟨ys,e,q⟩:=ai h;obtain⟨v,e2,q2⟩:=ai q
  rcases iQ (K:=X.K) e with z|z
  ·exact .inl ⟨p,ys,i,v,rfl,rfl,z,e2,q2⟩
  ·exact .inr ⟨p,ys,i,v,rfl,rfl,z,e2,q2⟩
 ·exact h.elim
def O4{α:Type}(a:α)(xs:List α):atI (a::xs) 0=some a:=cH (j:=0) rfl
def O3{α:Type}(a b:α)(xs:List α):atI (a::b::xs) 1=some b:=cH (j:=1) rfl
def OX(H:Hp)(Q:VK):List V->Prop:=λ ys=>∀ l,H l=none->Q (.ref l) (upd H l (.lst ys))
def Kh(xs:List V)(H:Hp)(Q:VK):Prop:=match xs with
 | [.ref p]=>aH (dh H p) (OX H Q)
 | _=>False
def xg:cn X (.type "list") Kh:=by
 refine rN.mono λ xs H Q h=>?_;unfold Kh at h;split at h
 ·rename_i p;obtain⟨ys,e,q⟩:=ai h;exact⟨p,ys,rfl,iQ e,q⟩
 ·exact h.elim
def Gm(p:Addr)(H:Hp)(Q:VK):HO->Prop:=λ o=>match o with
 | .lst ys=>∀ l,H l=none->Q (.ref l) (upd H l (.tup ys))
 | .tup _=>Q (.ref p) H
 | _=>False
def Fh(xs:List V)(H:Hp)(Q:VK):Prop:=match xs with
 | [.ref p]=>aH (H p) (Gm p H Q)
 | _=>False
def ud:cn X (.type "tuple") Fh:=by
 refine pJ.mono λ xs H Q h=>?_;unfold Fh at h;split at h
 ·rename_i p;obtain⟨o,e,q⟩:=ai h;unfold Gm at q;split at q
  ·rename_i ys;exact⟨p,ys,rfl,.inl ⟨SqL.of e,q⟩⟩
  ·rename_i ys;exact⟨p,ys,rfl,.inr ⟨SqT.of e,q⟩⟩
  ·exact q.elim
 ·exact h.elim
def Nu(xs:List V)(H:Hp)(Q:VK):Prop:=match xs with
 | [.int i,.int j]=>Q (.int (if i < j then j else i)) H
 | _=>False
def LM(i j:Int)(H:Hp)(Q:VK):Nu [.int i,.int j] H Q=Q (.int (if i < j then j else i)) H:=rfl
def iR(hc:X.calm=true):cn X (.builtin "max") Nu:=by
 refine(BM hc).mono λ xs H Q h=>?_;unfold Nu at h;split at h
 ·rename_i i j;exact⟨i,j,rfl,h⟩
 ·exact h.elim
def Nt(xs:List V)(H:Hp)(Q:VK):Prop:=match xs with
 | [.int i,.int j]=>Q (.int (if j < i then j else i)) H
 | _=>False
def LL(i j:Int)(H:Hp)(Q:VK):Nt [.int i,.int j] H Q=Q (.int (if j < i then j else i)) H:=rfl
def qN(hc:X.calm=true):cn X (.builtin "min") Nt:=by
 refine(BK hc).mono λ xs H Q h=>?_;unfold Nt at h;split at h
 ·rename_i i j;exact⟨i,j,rfl,h⟩
 ·exact h.elim
def tyO:HO->Option String
 | .lst _=>some "list"
 | .tup _=>some "tuple"
 | .frz _ (.lst _)=>some "list"
 | .dK _=>some "dict"
 | .dT _=>some "dict"
 | _=>none
def GS(xs:List V):tyO (.lst xs)=some "list":=rfl
def GR(xs:List V):tyO (.tup xs)=some "tuple":=rfl
def KO(xs:List (Key × V)):tyO (.dK xs)=some "dict":=rfl
def tyN(H:Hp):V->Option String
 | .non=>some "NoneType"
 | .bl _=>some "bool"
 | .int _=>some "int"
 | .str _=>some "str"
 | .ref p=>(H p).bind tyO
 | _=>none
def GW(H:Hp):tyN H .non=some "NoneType":=rfl
def KQ(H:Hp)(b:Bool):tyN H (.bl b)=some "bool":=rfl
def GX(H:Hp)(i:Int):tyN H (.int i)=some "int":=rfl
def GU(H:Hp)(x:Str):tyN H (.str x)=some "str":=rfl
def GV(H:Hp)(p:Addr):tyN H (.ref p)=(H p).bind tyO:=rfl
def KP{K:W.Frag}{H:Hp}{x:V}{t:String}(h:tyN H x=some t):uw K H x (.type t):=by
 cases x with
 | non=>cases h;exact .non
 | bl b=>cases h;exact .bl b
 | int i=>cases h;exact .int i
 | str x=>cases h;exact .str x
 | ref p=>
  have h':(H p).bind tyO=some t:=h
  cases e:H p with
  | none=>rw [e] at h';cases h'
  | some o=>
   rw [e] at h';have h2:tyO o=some t:=h'
   cases o with
   | lst xs=>cases h2;exact .lst e
   | tup xs=>cases h2;exact .tup e
   | dK xs=>cases h2;exact .dK e
   | dT xs=>cases h2;exact .dT e
   | frz ob u=>
    cases u with
    | lst xs=>cases h2;exact .frz e
    | _=>cases h2
   | _=>cases h2
 | _=>cases h
def p4:List String:=["NoneType", "bool", "int", "str", "list", "tuple", "dict"]
def PY(t n:String):Bool:=t == n || (t == "bool" && n == "int")
def Em(K:W.Frag):∀ t∈p4,∀ n∈p4,W.kitOne K (.type t) (.type n)=some (PY t n):=by
 intro t ht n hn;unfold p4 at ht hn;simp only [mem_cons,not_mem_nil,or_false] at ht hn
 rcases ht with rfl|rfl|rfl|rfl|rfl|rfl|rfl<;>rcases hn with rfl|rfl|rfl|rfl|rfl|rfl|rfl<;>exact Bu K _ _ _ (by decide +kernel)
def lW(n:String)(H:Hp)(Q:VK):String->Prop:=λ t=>t∈p4/\Q (.bl (PY t n)) H
def B6(xs:List V)(H:Hp)(Q:VK):Prop:=match xs with
 | [x,.ty n]=>n∈p4/\aH (tyN H x) (lW n H Q)
 | _=>False
def bb:cn X (.builtin "isinstance") B6:=by
 refine EK.mono λ xs H Q h=>?_;unfold B6 at h;split at h
 ·rename_i x n;obtain⟨hn,h⟩:=h;obtain⟨t,e,ht,q⟩:=ai h;exact⟨x,n,_,_,rfl,KP e,Em _ t ht n hn,q⟩
 ·exact h.elim
def wC(x:V)(H:Hp)(Q:VK):B6 [x,.ty "int"] H Q=aH (tyN H x) (lW "int" H Q):=by
 unfold B6;exact propext ⟨λ h=>h.2,λ h=>⟨by decide,h⟩⟩
def tX(x:V)(H:Hp)(Q:VK):B6 [x,.ty "bool"] H Q=aH (tyN H x) (lW "bool" H Q):=by
 unfold B6;exact propext ⟨λ h=>h.2,λ h=>⟨by decide,h⟩⟩
def rK(x:V)(H:Hp)(Q:VK):B6 [x,.ty "tuple"] H Q=aH (tyN H x) (lW "tuple" H Q):=by
 unfold B6;exact propext ⟨λ h=>h.2,λ h=>⟨by decide,h⟩⟩
def tW(x:V)(H:Hp)(Q:VK):B6 [x,.ty "list"] H Q=aH (tyN H x) (lW "list" H Q):=by
 unfold B6;exact propext ⟨λ h=>h.2,λ h=>⟨by decide,h⟩⟩
def A0(H:Hp)(Q:VK):lW "int" H Q "NoneType"=Q (.bl false) H:=propext ⟨λ h=>h.2,λ h=>⟨by decide,h⟩⟩
def AZ(H:Hp)(Q:VK):lW "tuple" H Q "NoneType"=Q (.bl false) H:=propext ⟨λ h=>h.2,λ h=>⟨by decide,h⟩⟩
def AY(H:Hp)(Q:VK):lW "bool" H Q "bool"=Q (.bl true) H:=propext ⟨λ h=>h.2,λ h=>⟨by decide,h⟩⟩
def AX(H:Hp)(Q:VK):lW "int" H Q "bool"=Q (.bl true) H:=propext ⟨λ h=>h.2,λ h=>⟨by decide,h⟩⟩
def AW(H:Hp)(Q:VK):lW "tuple" H Q "bool"=Q (.bl false) H:=propext ⟨λ h=>h.2,λ h=>⟨by decide,h⟩⟩
def AS(H:Hp)(Q:VK):lW "bool" H Q "int"=Q (.bl false) H:=propext ⟨λ h=>h.2,λ h=>⟨by decide,h⟩⟩
def AR(H:Hp)(Q:VK):lW "int" H Q "int"=Q (.bl true) H:=propext ⟨λ h=>h.2,λ h=>⟨by decide,h⟩⟩
def AQ(H:Hp)(Q:VK):lW "tuple" H Q "int"=Q (.bl false) H:=propext ⟨λ h=>h.2,λ h=>⟨by decide,h⟩⟩
def AL(H:Hp)(Q:VK):lW "int" H Q "str"=Q (.bl false) H:=propext ⟨λ h=>h.2,λ h=>⟨by decide,h⟩⟩
def AK(H:Hp)(Q:VK):lW "tuple" H Q "str"=Q (.bl false) H:=propext ⟨λ h=>h.2,λ h=>⟨by decide,h⟩⟩
def AO(H:Hp)(Q:VK):lW "int" H Q "list"=Q (.bl false) H:=propext ⟨λ h=>h.2,λ h=>⟨by decide,h⟩⟩
def AN(H:Hp)(Q:VK):lW "list" H Q "list"=Q (.bl true) H:=propext ⟨λ h=>h.2,λ h=>⟨by decide,h⟩⟩
def AM(H:Hp)(Q:VK):lW "tuple" H Q "list"=Q (.bl false) H:=propext ⟨λ h=>h.2,λ h=>⟨by decide,h⟩⟩
def AJ(H:Hp)(Q:VK):lW "int" H Q "tuple"=Q (.bl false) H:=propext ⟨λ h=>h.2,λ h=>⟨by decide,h⟩⟩
def AI(H:Hp)(Q:VK):lW "tuple" H Q "tuple"=Q (.bl true) H:=propext ⟨λ h=>h.2,λ h=>⟨by decide,h⟩⟩
def AV(H:Hp)(Q:VK):lW "int" H Q "dict"=Q (.bl false) H:=propext ⟨λ h=>h.2,λ h=>⟨by decide,h⟩⟩
def AU(H:Hp)(Q:VK):lW "tuple" H Q "dict"=Q (.bl false) H:=propext ⟨λ h=>h.2,λ h=>⟨by decide,h⟩⟩
def NZ(r:V->List V->Hp->VK->Prop)(x:V)(Q:VK):List V->Hp->Prop:=λ xs H=>r x xs H Q
def Mq(r:V->List V->Hp->VK->Prop)(x:V)(Q:VK)(xs:List V)(H:Hp):NZ r x Q xs H=r x xs H Q:=rfl
def kBM(K:W.Frag)(T:String)(r:V->List V->Hp->VK->Prop)(t:TA)(σ:St)(Q:VK):VK:=λ x H=>tyV K T x H/\t σ H (NZ r x Q)
def OV(K:W.Frag)(T:String)(r:V->List V->Hp->VK->Prop)(t:TA)(σ:St)(Q:VK)(x:V)(H:Hp):kBM K T r t σ Q x H=(tyV K T x H/\t σ H (NZ r x Q)):=rfl
def Oz(K:W.Frag)(T:String)(r:V->List V->Hp->VK->Prop)(to:TE)(t:TA)(σ:St)(H:Hp)(Q:VK):tBM K T r to t σ H Q=to σ H (kBM K T r t σ Q):=rfl
def PQ(K:W.Frag)(T:String)(r:V->List V->Hp->VK->Prop)(Q:VK):VK:=λ x H=>tyV K T x H/\r x [] H Q
def Mp(K:W.Frag)(T:String)(r:V->List V->Hp->VK->Prop)(Q:VK)(x:V)(H:Hp):PQ K T r Q x H=(tyV K T x H/\r x [] H Q):=rfl
def LF(K:W.Frag)(T:String)(r:V->List V->Hp->VK->Prop)(to:TE)(σ:St)(H:Hp)(Q:VK):Pf K T r to σ H Q=to σ H (PQ K T r Q):=rfl
def CI(K:W.Frag)(p:Addr)(H:Hp)(h:(az H p).isSome=true):tyV K "list" (.ref p) H=True:=by
 cases e:az H p with
 | none=>rw [e] at h;cases h
 | some ys=>exact eq_true (.inl ⟨rfl,ys,SqL.of (bp e)⟩)
def PU(l:Addr)(y:V)(H:Hp)(Q:VK):List V->Prop:=λ xs=>xs.length < sizeLine/\Q .non (upd H l (.lst (xs++[y])))
def Mu(l:Addr)(y:V)(H:Hp)(Q:VK)(xs:List V):PU l y H Q xs=(xs.length < sizeLine/\Q .non (upd H l (.lst (xs++[y])))):=rfl
def AF(l:Addr)(y:V)(H:Hp)(Q:VK):yF (.ref l) [y] H Q=aH (az H l) (PU l y H Q):=by
 refine propext ⟨λ h=>?_,λ h=>?_⟩
 ·obtain⟨_,xs,_,e1,e2,e3,a,b⟩:=h;cases e1;cases e2;have e:az H l=some xs:=by unfold az;rw [e3];rfl
  rw [e];exact⟨a,b⟩
 ·obtain⟨xs,e,a,b⟩:=ai h;exact⟨l,xs,y,rfl,rfl,bp e,a,b⟩
def Pz(l:Addr)(H:Hp)(Q:VK):List V->Prop:=λ xs=>Q .non (upd H l (.lst xs.reverse))
def L0(l:Addr)(H:Hp)(Q:VK)(xs:List V):Pz l H Q xs=Q .non (upd H l (.lst xs.reverse)):=rfl
def wA(l:Addr)(H:Hp)(Q:VK):uP (.ref l) [] H Q=aH (az H l) (Pz l H Q):=by
 refine propext ⟨λ h=>?_,λ h=>?_⟩
 ·obtain⟨_,xs,e1,_,e3,b⟩:=h;cases e1;have e:az H l=some xs:=by unfold az;rw [e3];rfl
  rw [e];exact b
 ·obtain⟨xs,e,b⟩:=ai h;exact⟨l,xs,rfl,rfl,bp e,b⟩
def OY(xs:List V)(H:Hp)(Q:VK):List V->Prop:=λ ys=>xs.length+ys.length<=sizeLine/\∀ p,H p=none->Q (.ref p) (upd H p (.lst (xs++ys)))
def OZ(b:Addr)(H:Hp)(Q:VK):List V->Prop:=λ xs=>aH (az H b) (OY xs H Q)
def LI(l b:Addr)(H:Hp)(Q:VK):Pl (.ref l) (.ref b) H Q=aH (az H l) (OZ b H Q):=by
 refine propext ⟨λ h=>?_,λ h=>?_⟩
 ·obtain⟨l',b',xs,zs,e1,e2,e3,e4,hz,hq⟩:=h;cases e1;cases e2;have e:az H l=some xs:=by unfold az;rw [e3];rfl
  have e':az H b=some zs:=by unfold az;rw [e4];rfl
  rw [e]
  show aH (az H b) _
  rw [e'];exact⟨hz,hq⟩
 ·obtain⟨xs,e,q⟩:=ai h;obtain⟨zs,e',a,q⟩:=ai q;exact⟨l,b,xs,zs,rfl,rfl,bp e,bp e',a,q⟩
def Gq(p:Addr)(xs:List V)(v:V)(H:Hp)(Q:Hp->Prop):Nat->Prop:=λ j=>Q (upd H p (.lst (xs.set j v)))
def Ir(p:Addr)(xs:List V)(v:V)(H:Hp)(Q:Hp->Prop)(j:Nat):Gq p xs v H Q j=Q (upd H p (.lst (xs.set j v))):=rfl
def Py(p:Addr)(i:Int)(v:V)(H:Hp)(Q:Hp->Prop):List V->Prop:=λ xs=>aH (ixN xs.length i) (Gq p xs v H Q)
def LX(p:Addr)(i:Int)(v:V)(H:Hp)(Q:Hp->Prop)(xs:List V):Py p i v H Q xs=aH (ixN xs.length i) (Gq p xs v H Q):=rfl
def HQ(p:Addr)(i:Int)(v:V)(H:Hp)(Q:Hp->Prop):Kf (.ref p) (.int i) v H Q=aH (az H p) (Py p i v H Q):=by
 refine propext ⟨λ h=>?_,λ h=>?_⟩
 ·obtain⟨_,xs,_,j,e1,e2,e3,e4,b⟩:=h;cases e1;cases e2;have e:az H p=some xs:=by unfold az;rw [e3];rfl
  rw [e]
  show aH (ixN xs.length i) _
  rw [e4];exact b
 ·obtain⟨xs,e,q⟩:=ai h;obtain⟨j,e4,q⟩:=ai q;exact⟨p,xs,i,j,rfl,rfl,bp e,e4,q⟩
def ym(t:E4)(o v:V)(σ:St)(Q:St->Hp->Prop):VK:=λ i H=>t o i v H λ H3=>Q σ H3
def DM(t:E4)(o v:V)(σ:St)(Q:St->Hp->Prop)(i:V)(H:Hp):ym t o v σ Q i H=t o i v H (Q σ):=rfl
def Fu(ti:TE)(t:E4)(v:V)(σ:St)(Q:St->Hp->Prop):VK:=λ o H=>ti σ H (ym t o v σ Q)
def DN(ti:TE)(t:E4)(v:V)(σ:St)(Q:St->Hp->Prop)(o:V)(H:Hp):Fu ti t v σ Q o H=ti σ H (ym t o v σ Q):=rfl
def MB(to ti:TE)(t:E4)(v:V)(σ:St)(H:Hp)(Q:St->Hp->Prop):P4 to ti t v σ H Q=to σ H (Fu ti t v σ Q):=rfl
def kGT(n:Nat)(t:TGs)(σ:St)(H:Hp)(Q:St->Hp->Prop):List V->Prop:=λ xs=>xs.length=n/\t xs σ H Q
def OT(n:Nat)(t:TGs)(σ:St)(H:Hp)(Q:St->Hp->Prop)(xs:List V):kGT n t σ H Q xs=(xs.length=n/\t xs σ H Q):=rfl
def qGT(n:Nat)(t:TGs):TG:=λ v σ H Q=>match v with
 | .ref a=>aH (ke H a) (kGT n t σ H Q)
 | _=>False
def OB(n:Nat)(t:TGs)(a:Addr)(σ:St)(H:Hp)(Q:St->Hp->Prop):qGT n t (.ref a) σ H Q=aH (ke H a) (kGT n t σ H Q):=rfl
def b0{K:W.Frag}{n:Nat}{t:TGs}{v:V}{σ:St}{H:Hp}{Q:St->Hp->Prop}(h:qGT n t v σ H Q):P2 K n t v σ H Q:=by
 unfold qGT at h;split at h
 ·rename_i a;obtain⟨xs,e,hl,q⟩:=ai h;exact⟨a,xs,rfl,SqT.of (uA e),hl,q⟩
 ·exact h.elim
def Ld:OpR X (compareOp .Is) Pj:=Lh
def oJ:OpR X (compareOp .IsNot) xy:=Hx
def sk(tb:TS)(D:ux):St->Hp->Prop:=λ σ H=>tb D σ H
def aA(tb:TS)(D:ux)(σ:St)(H:Hp):sk tb D σ H=tb D σ H:=rfl
def FD(g:TG)(tb:TS)(D:ux)(σ:St)(J:It)(H1:Hp):Prop:=∃ W:Nat->Nat->St->Hp->Prop,(∃ m,W 0 m σ H1)/\∀ i m σ H,W i m σ H →
 (J.stop i H/\D.nx σ H)\/(J.go i H/\∃ N:St->Hp->Prop,(∀ σ' H',N σ' H'->∃ m',m' < m/\W (i+1) m' σ' H')/\∀ x H',J.yld i H x H'->g x σ H' λ σ2 H2=>tb { D with nx:=N,ct:=N,bk:=D.nx } σ2 H2)
def LC(wi:TI)(g:TG)(tb:TS)(D:ux)(σ:St)(H:Hp):Pd wi g tb D σ H=wi σ H (FD g tb D σ):=rfl
def kR1(R:It->Hp->Prop):List V->Hp->Prop:=λ vs H=>∃ j:Int,vs=[.int j]/\-(2 ^ 62)<=j/\j < 2 ^ 62/\R (Itr 0 j.toNat) H
def OL(R:It->Hp->Prop)(j:Int)(H:Hp):kR1 R [.int j] H=(-(2 ^ 62)<=j/\j < 2 ^ 62/\R (Itr 0 j.toNat) H):=propext ⟨λ ⟨_,e,q⟩=>by cases e;exact q,λ q=>⟨j,rfl,q⟩⟩
def IP(ta:TA)(σ:St)(H:Hp)(R:It->Hp->Prop):KA ta σ H R=ta σ H (kR1 R):=rfl
def Cg(K:W.Frag)(a:Addr)(H:Hp)(R:It->Hp->Prop):HO->Prop:=λ o=>match o with
 | .lst _=>R (Itl K a) H
 | .frz _ (.lst _)=>R (Itl K a) H
 | .tup _=>R (Itt K a) H
 | _=>False
def A4(K:W.Frag)(a:Addr)(H:Hp)(R:It->Hp->Prop)(xs:List V):Cg K a H R (.lst xs)=R (Itl K a) H:=rfl
def Nd(K:W.Frag)(R:It->Hp->Prop):VK:=λ x H=>match x with
 | .ref a=>aH (H a) (Cg K a H R)
 | _=>False
def Mc(K:W.Frag)(R:It->Hp->Prop)(a:Addr)(H:Hp):Nd K R (.ref a) H=aH (H a) (Cg K a H R):=rfl
def P0(K:W.Frag)(tl:TE):TI:=λ σ H R=>tl σ H (Nd K R)
def Mx(K:W.Frag)(tl:TE)(σ:St)(H:Hp)(R:It->Hp->Prop):P0 K tl σ H R=tl σ H (Nd K R):=rfl
def K4{tg l:Expr}{tl:TE}(hl:PE X l tl):PI X tg l (P0 X.K tl):=by
 intro pins s σ H R I h;refine thn (hl pins s σ H _ I h) λ v s1 ⟨x,H1,I1,r1,q1⟩=>?_;unfold Nd at q1;split at q1
 ·rename_i a;cases r1;obtain⟨o,e,q⟩:=ai q1
  have fp:∀ b∈[s1.heap.objs.size],r0 X pins H1 b:=λ b hb=>by
   have e:b=s1.heap.objs.size:=by simpa using hb
   subst e;exact I1.fpOk (QK _) (I1.hok.fresh (QK _))
  have lst:∀ xs,SqL X.K H1 a xs->R (Itl X.K a) H1->wpAny (model X.prog X.w) X.A (pyIter (.ref a)) (PIE X pins σ tg R) X.xe s1:=λ xs hq q=>by
   obtain⟨its,rv,p,hz⟩:=I1.list hq;refine Si p.isList ?_;exact⟨s1.heap.objs.size,[s1.heap.objs.size],_,_,H1,rfl,I1.kept (t':=s1.toks) λ b o e=>QC _ e,zY a _,⟨_,QN _ rfl,rfl,rfl⟩,fp,q⟩
  unfold Cg at q;split at q
  ·exact lst _ (SqL.of e) q
  ·exact lst _ (.inl (.inr ⟨_,e⟩)) q
  ·obtain⟨its,rv,p,hz⟩:=I1.tuple (SqT.of e);refine wpAny_pyIter_tuple (show s1.heap.IsTuple a its.toArray from p) ?_;exact⟨s1.heap.objs.size,[s1.heap.objs.size],_,_,H1,rfl,I1.kept (t':=s1.toks) λ b o e=>QC _ e,vV a _,⟨_,QN _ rfl,rfl,rfl⟩,fp,q⟩
  ·exact q.elim
 ·exact q1.elim
def hG{lo:Int}{n:Nat}{g:TG}{tb:TS}{nx:St->Hp->Prop}{rt:VK}{bk ct:St->Hp->Prop}{σ:St}{H:Hp}(Pv:Nat->St->Hp->Prop)(h0:Pv 0 σ H)
  (hs:∀ i σ H,i < n->Pv i σ H->g (.int (lo+i)) σ H (sk tb ⟨Pv (i+1),rt,nx,Pv (i+1)⟩)) (hd:∀ σ H,Pv n σ H->nx σ H):FD g tb ⟨nx,rt,bk,ct⟩ σ (Itr lo n) H:=BE Pv h0 hs hd
def cG{K:W.Frag}{a:Addr}{xs:List V}{g:TG}{tb:TS}{nx:St->Hp->Prop}{rt:VK}{bk ct:St->Hp->Prop}{σ:St}{H:Hp}(Pv:Nat->St->Hp->Prop)(h0:Pv 0 σ H)(hl:∀ i σ H,i<=xs.length->Pv i σ H->H a=some (.lst xs))
  (hs:∀ i x σ H,xs[i]? = some x->Pv i σ H->g x σ H (sk tb ⟨Pv (i+1),rt,nx,Pv (i+1)⟩)) (hd:∀ σ H,Pv xs.length σ H->nx σ H):FD g tb ⟨nx,rt,bk,ct⟩ σ (Itl K a) H:=EB (xs:=xs) Pv h0 (λ i σ H hi p=>SqL.of (hl i σ H hi p)) hs hd
def kWh(tb:TS)(nx:St->Hp->Prop)(rt:VK)(Pv:Nat->St->Hp->Prop)(m:Nat)(σ:St):Bool->Hp->Prop:=λ b H=>if b=true then tb ⟨λ σ' H'=>∃ m',m' < m/\Pv m' σ' H',rt,nx,λ σ' H'=>∃ m',m' < m/\Pv m' σ' H'⟩ σ H else nx σ H
def OJ(tb:TS)(nx:St->Hp->Prop)(rt:VK)(Pv:Nat->St->Hp->Prop)(m:Nat)(σ:St)(b:Bool)(H:Hp):kWh tb nx rt Pv m σ b H=(if b=true then tb ⟨λ σ' H'=>∃ m',m' < m/\Pv m' σ' H',rt,nx,λ σ' H'=>∃ m',m' < m/\Pv m' σ' H'⟩ σ H else nx σ H):=rfl
def GH{c:TT}{tb:TS}{nx:St->Hp->Prop}{rt:VK}{bk ct:St->Hp->Prop}{σ:St}{H:Hp}(Pv:Nat->St->Hp->Prop)(m0:Nat)(h0:Pv m0 σ H)
  (mono:∀ σ H Q Q',(∀ b H1,Q b H1->Q' b H1)->c σ H Q->c σ H Q')
  (hs:∀ m σ H,Pv m σ H->c σ H (kWh tb nx rt Pv m σ)):xG c tb ⟨nx,rt,bk,ct⟩ σ H:=by
 refine⟨Pv,⟨m0,h0⟩,λ m σ H p=>mono σ H _ _ (λ b H1 q=>?_) (hs m σ H p)⟩;unfold kWh at q
 cases b with
 | true=>exact⟨_,λ σ' H' z=>z,q⟩
 | false=>exact q
end
def kE4(H:Hp)(Q:VK):Bool->Prop:=λ b=>Q (.bl b) H
def Gk(H:Hp)(Q:VK)(b:Bool):kE4 H Q b=Q (.bl b) H:=rfl
def kC3(D:Addr)(ys:List V)(N:List V->Hp->Prop):VK:=λ y H=>H D=some (.lst ys)/\ys.length < sizeLine/\N (ys++[y]) (upd H D (.lst (ys++[y])))
def kC2(te:TE)(σ2:St)(D:Addr)(ys:List V)(N:List V->Hp->Prop):Bool->Hp->Prop:=λ b H=>if b=true then te σ2 H (kC3 D ys N) else N ys H
def kC1(k:Nat)(tt:TT)(te:TE)(σ:St)(D:Addr)(ys:List V)(N:List V->Hp->Prop):St->Hp->Prop:=λ σ2 H=>(∃ vs:St,vs.length=k/\σ2=vs++σ)/\tt σ2 H (kC2 te σ2 D ys N)
def Lm(σ:St)(H:Hp)(Q:Bool->Hp->Prop):O9 σ H Q=Q true H:=rfl
def Cj(k:Nat)(g:TG)(tt:TT)(te:TE)(σ:St)(Q:VK):It->Hp->Prop:=λ J H1=>∀ D,H1 D=none->∃ W:Nat->Nat->List V->Hp->Prop,(∃ m,W 0 m [] (upd H1 D (.lst [])))/\∀ i m ys H,W i m ys H →
 (J.stop i H/\Q (.ref D) H)\/(J.go i H/\∃ N:List V->Hp->Prop,(∀ aS H',N aS H'->∃ m',m' < m/\W (i+1) m' aS H') /\
  ∀ x H',J.yld i H x H'->g x (List.replicate k none++σ) H' (kC1 k tt te σ D ys N))
def HK(k:Nat)(wi:TI)(g:TG)(tt:TT)(te:TE)(σ:St)(H:Hp)(Q:VK):FJ k wi g tt te σ H Q=wi σ H (Cj k g tt te σ Q):=rfl
def Ku(i:Nat)(σ:St)(nx:St->Hp->Prop):VK:=λ x H=>iC i x σ H nx
def Io(i:Nat)(σ:St)(nx:St->Hp->Prop)(x:V)(H:Hp):Ku i σ nx x H=iC i x σ H nx:=rfl
def HE(i:Nat)(te:TE)(nx:St->Hp->Prop)(rt:VK)(bk ct:St->Hp->Prop)(σ:St)(H:Hp):J4 i te ⟨nx,rt,bk,ct⟩ σ H=te σ H (Ku i σ nx):=rfl
section
variable {k:Nat}{g:TG}{tt:TT}{te:TE}{σ:St}{Q:VK}{H:Hp}{K:PySem.W.Frag}
end
def bf{α:Type}:List (Option α)->Option (List α)
 | []=>some []
 | o::r=>o.bind λ x=>(bf r).map λ xs=>x::xs
def xv(f:V->Option PyData):HO->Option PyData
 | .lst xs=>(bf (xs.map f)).map .list
 | .tup xs=>(bf (xs.map f)).map .tuple
 | _=>none
def dQ(H:Hp)(f:V->Option PyData):V->Option PyData
 | .non=>some .none
 | .bl b=>some (.bool b)
 | .int i=>some (.int i)
 | .str z=>if PyData.strOk z=true then some (.str z) else none
 | .ref p=>(H p).bind (xv f)
 | _=>none
def gY(H:Hp):Nat->V->Option PyData
 | 0,_=>none
 | n+1,x=>dQ H (gY H n) x
def noD:V->Option PyData:=λ _=>none
def MC(H:Hp)(x:V):gY H 6 x=dQ H (dQ H (dQ H (dQ H (dQ H (dQ H noD))))) x:=rfl
def wI(H:Hp)(n:Nat)(z:Str):gY H (n+1) (.str z)=if PyData.strOk z=true then some (.str z) else none:=rfl
def jt(H:Hp)(n:Nat)(p:Addr):gY H (n+1) (.ref p)=(H p).bind (xv (gY H n)):=rfl
def wJ(H:Hp)(f:V->Option PyData)(i:Int):dQ H f (.int i)=some (.int i):=rfl
def gJ(H:Hp)(f:V->Option PyData)(p:Addr):dQ H f (.ref p)=(H p).bind (xv f):=rfl
def gI(f:V->Option PyData)(xs:List V):xv f (.lst xs)=(bf (xs.map f)).map .list:=rfl
def gH(f:V->Option PyData)(xs:List V):xv f (.tup xs)=(bf (xs.map f)).map .tuple:=rfl
def pH{α:Type}:bf ([]:List (Option α))=some []:=rfl
def gU{α:Type}(x:α)(r:List (Option α)):bf (some x::r)=(bf r).map λ xs=>x::xs:=rfl
def gp(H:Hp)(f:V->Option PyData):∀ ns:List Int,bf ((ns.map V.int).map (dQ H f))=some (ns.map PyData.int)
 | []=>rfl
 | i::r=>by
  show (bf ((r.map V.int).map (dQ H f))).map _=_
  rw [gp H f r];rfl
def oP{K:W.Frag}{H:Hp}{n:Nat}(ih:∀ x d,gY H n x=some d->nH K H x d/\d.canLay0=true/\d.depth<=n):∀ (xs:List V) (ds:List PyData),bf (xs.map (gY H n))=some ds->kf K H xs ds/\PyData.canLayAll0 ds=true/\PyData.depthAll ds<=n
 | [],ds,h=>by cases h;exact⟨.nil,rfl,RP _⟩
 | x::xs,ds,h=>by
  have h':(gY H n x).bind (λ d=>(bf (xs.map (gY H n))).map λ ds=>d::ds)=some ds:=h
  cases e:gY H n x with
  | none=>rw [e] at h';cases h'
  | some d=>
   rw [e] at h';have h2:(bf (xs.map (gY H n))).map (λ ds=>d::ds)=some ds:=h'
   cases e2:bf (xs.map (gY H n)) with
   | none=>rw [e2] at h2;cases h2
   | some es=>
    rw [e2] at h2;cases h2;obtain⟨a,b,c⟩:=ih x d e;obtain⟨a',b',c'⟩:=oP ih xs es e2;exact⟨.cons a a',by simp [PyData.canLayAll0,b,b'],by simp only [PyData.depthAll];omega⟩
def kz{K:W.Frag}{H:Hp}:∀ (n:Nat) (x:V) (d:PyData),gY H n x=some d->nH K H x d/\d.canLay0=true/\d.depth<=n
 | 0,x,d,h=>by cases h
 | n+1,x,d,h=>by
  cases x with
  | non=>cases h;exact⟨.non,rfl,RP _⟩
  | bl b=>cases h;exact⟨.bl b,rfl,RP _⟩
  | int i=>cases h;exact⟨.int i,rfl,RP _⟩
  | str z=>
   rw [wI] at h;split at h
   ·rename_i hz;cases h;exact⟨.str z,by simpa [PyData.canLay0] using hz,RP _⟩
   ·cases h
  | ref p=>
   rw [jt] at h
   cases e:H p with
   | none=>rw [e] at h;cases h
   | some o=>
    rw [e] at h;have h':xv (gY H n) o=some d:=h
    cases o with
    | lst xs=>
     rw [gI] at h'
     cases e2:bf (xs.map (gY H n)) with
     | none=>rw [e2] at h';cases h'
     | some ds=>
      rw [e2] at h';cases h';obtain⟨a,b,c⟩:=oP (K:=K) (kz n) xs ds e2;exact⟨.lst (SqL.of e) a,by simpa [PyData.canLay0] using b,by simp only [PyData.depth];omega⟩
    | tup xs=>
     rw [gH] at h'
     cases e2:bf (xs.map (gY H n)) with
     | none=>rw [e2] at h';cases h'
     | some ds=>
      rw [e2] at h';cases h';obtain⟨a,b,c⟩:=oP (K:=K) (kz n) xs ds e2;exact⟨.tup (SqT.of e) a,by simpa [PyData.canLay0] using b,by simp only [PyData.depth];omega⟩
    | _=>cases h'
  | _=>cases h
def fC{K:W.Frag}{H:Hp}{n:Nat}{x:V}{d:PyData}(hn:n<=64)(h:gY H n x=some d):nH K H x d/\SeqAt.shaped d=true:=by
 obtain⟨a,b,c⟩:=kz (K:=K) n x d h;refine⟨a,?_⟩;unfold SeqAt.shaped;rw [b,decide_eq_true (show d.depth<=64 by omega)];rfl
def Nf(neg:Bool)(H:Hp)(Q:VK)(d:PyData):PyData->Prop:=λ e=>Q (.bl (if neg=true then !PyData.eqv d e else PyData.eqv d e)) H
def DO(H:Hp)(Q:VK)(d e:PyData):Nf true H Q d e=Q (.bl (!PyData.eqv d e)) H:=rfl
def DP(H:Hp)(Q:VK)(d e:PyData):Nf false H Q d e=Q (.bl (PyData.eqv d e)) H:=rfl
def NP(neg:Bool)(y:V)(H:Hp)(Q:VK):PyData->Prop:=λ d=>aH (gY H 6 y) (Nf neg H Q d)
def Mf(neg:Bool)(y:V)(H:Hp)(Q:VK)(d:PyData):NP neg y H Q d=aH (gY H 6 y) (Nf neg H Q d):=rfl
def qEq(neg:Bool):R2:=λ x y H Q=>if JW x y=true then Q (.bl (if neg=true then !decide (x=y) else decide (x=y))) H else aH (gY H 6 x) (NP neg y H Q)
def wD(neg:Bool)(p:Addr)(x:V)(H:Hp)(Q:VK):qEq neg x (.ref p) H Q=aH (gY H 6 x) (NP neg (.ref p) H Q):=by
 show (if JW x (.ref p)=true then _ else _)=_
 rw [Q5 (by cases x<;>exact QS)]
def pG(i:Int)(j:Int)(H:Hp)(Q:VK):qEq false (V.int i) (V.int j) H Q=Q (.bl (decide (i=j))) H:=by
 have e:decide (((V.int i):V)=(V.int j))=decide (i=j):=by simp
 show Q (.bl (if false=true then !decide ((V.int i)=(V.int j)) else decide ((V.int i)=(V.int j)))) H=_
 rw [e];rfl
def pE(i:Int)(j:Int)(H:Hp)(Q:VK):qEq true (V.int i) (V.int j) H Q=Q (.bl (!decide (i=j))) H:=by
 have e:decide (((V.int i):V)=(V.int j))=decide (i=j):=by simp
 show Q (.bl (if true=true then !decide ((V.int i)=(V.int j)) else decide ((V.int i)=(V.int j)))) H=_
 rw [e];rfl
def tU(i:Bool)(j:Bool)(H:Hp)(Q:VK):qEq true (V.bl i) (V.bl j) H Q=Q (.bl (!decide (i=j))) H:=by
 have e:decide (((V.bl i):V)=(V.bl j))=decide (i=j):=by simp
 show Q (.bl (if true=true then !decide ((V.bl i)=(V.bl j)) else decide ((V.bl i)=(V.bl j)))) H=_
 rw [e];rfl
def pF(i:Str)(j:Str)(H:Hp)(Q:VK):qEq false (V.str i) (V.str j) H Q=Q (.bl (decide (i=j))) H:=by
 have e:decide (((V.str i):V)=(V.str j))=decide (i=j):=by simp
 show Q (.bl (if false=true then !decide ((V.str i)=(V.str j)) else decide ((V.str i)=(V.str j)))) H=_
 rw [e];rfl
def pD(i:Str)(j:Str)(H:Hp)(Q:VK):qEq true (V.str i) (V.str j) H Q=Q (.bl (!decide (i=j))) H:=by
 have e:decide (((V.str i):V)=(V.str j))=decide (i=j):=by simp
 show Q (.bl (if true=true then !decide ((V.str i)=(V.str j)) else decide ((V.str i)=(V.str j)))) H=_
 rw [e];rfl
section
variable {X:Cx}
def cy(hu:X.A.units+64 < cLine):OpR X (compareOp .Eq) (qEq false):=by
 refine(Og.or (Li hu)).mono λ x y H Q h=>?_;unfold qEq at h;split at h
 ·rename_i hs;exact .inl ⟨hs,h⟩
 obtain⟨d,e1,h⟩:=ai h;obtain⟨e,e2,h⟩:=ai h;obtain⟨a,b⟩:=fC (K:=X.K) (by decide) e1;obtain⟨a',b'⟩:=fC (K:=X.K) (by decide) e2;exact .inr ⟨d,e,a,a',b,b',h⟩
def c9(hu:X.A.units+64 < cLine):OpR X (compareOp .NotEq) (qEq true):=by
 refine(Od.or (Lf hu)).mono λ x y H Q h=>?_;unfold qEq at h;split at h
 ·rename_i hs;exact .inl ⟨hs,h⟩
 obtain⟨d,e1,h⟩:=ai h;obtain⟨e,e2,h⟩:=ai h;obtain⟨a,b⟩:=fC (K:=X.K) (by decide) e1;obtain⟨a',b'⟩:=fC (K:=X.K) (by decide) e2;exact .inr ⟨d,e,a,a',b,b',h⟩
end
def Jz(i j:Int):PyData.eqv (.int i) (.int j)=decide (i=j):=Bool.beq_eq_decide_eq i j
def qL(xs ys:List PyData):PyData.eqv (.tuple xs) (.tuple ys)=PyData.eqvAll xs ys:=by simp only [PyData.eqv]
def EE(xs ys:List PyData):PyData.eqv (.list xs) (.list ys)=PyData.eqvAll xs ys:=by simp only [PyData.eqv]
def ju:PyData.eqvAll [] []=true:=by simp only [PyData.eqvAll]
def ir(x y:PyData)(xs ys:List PyData):PyData.eqvAll (x::xs) (y::ys)=(PyData.eqv x y && PyData.eqvAll xs ys):=by simp only [PyData.eqvAll]
def u9(x:PyData)(xs:List PyData):PyData.eqvAll (x::xs) []=false:=by simp only [PyData.eqvAll]
def EF(x:PyData)(xs:List PyData):PyData.eqvAll [] (x::xs)=false:=by simp only [PyData.eqvAll]
def iq:∀ ns ms:List Int,PyData.eqvAll (ns.map PyData.int) (ms.map PyData.int)=decide (ns=ms)
 | [],[]=>by rw [map_nil,ju];rfl
 | [],_::_=>by rw [map_nil,RQ,EF];rfl
 | _::_,[]=>by rw [map_nil,RQ,u9];rfl
 | i::r,j::t=>by
  rw [RQ,RQ,ir,Jz,iq r t]
  by_cases h:i=j<;>by_cases h2:r=t<;>simp [h,h2]
def JO(i j:Int):N7 i j=(0 < j/\j < 1073741824):=rfl
def MY(i j:Int)(h:-18446744073709551616 < i)(h':i < 18446744073709551616):kd i j=True:=eq_true (.inl ⟨by omega,by omega⟩)
def MX(i j:Int)(h:-18446744073709551616 < j)(h':j < 18446744073709551616):kd i j=True:=eq_true (.inr ⟨by omega,by omega⟩)
def JN(j:Int):N6 10 j=(0<=j/\j<=1000000):=propext ⟨λ h=>⟨h.1,h.2.1⟩,λ h=>⟨h.1,h.2,by decide⟩⟩
def Ks(n:Nat)(h:n<=1000):(n<=sizeLine)=True:=eq_true (Tt (qk h))
def Kr(n:Nat)(h:n<=1000):(n < sizeLine)=True:=eq_true (qk h)
def Ext.of{H H':Hp}(h:∀ a,(H a).isSome=true->H' a=H a):Ext H H':=⟨h,λ K a xs q=>by
 have s:pQ H H':=λ b o e=>(h b (by rw [e];rfl)).trans e;exact s.seq q⟩
def Ext.same{H H':Hp}(h:Ext H H'):pQ H H':=λ b o e=>(h.1 b (by rw [e];rfl)).trans e
def pQ.ext{H H':Hp}(h:pQ H H'):Ext H H':=Ext.of λ a q=>by
 cases e:H a with
 | none=>rw [e] at q;cases q
 | some o=>exact h a o e
def Ext.refl(H:Hp):Ext H H:=(pQ.refl H).ext
def Ext.trans{H H1 H2:Hp}(a:Ext H H1)(b:Ext H1 H2):Ext H H2:=(a.same.trans b.same).ext
def Ext.new{H:Hp}{p:Addr}{o:HO}(h:H p=none):Ext H (upd H p o):=(CQ h).ext
def Ext.put{H H1:Hp}{p:Addr}{o:HO}(a:Ext H H1)(h:H p=none):Ext H (upd H1 p o):=pQ.ext λ b u e=>by
 rw [ah (cz e h)];exact a.same b u e
def Ext.free{H H1:Hp}{p:Addr}(a:Ext H H1)(h:H1 p=none):H p=none:=a.same.free h
def Ext.at{H H1:Hp}{p:Addr}{o:HO}(a:Ext H H1)(h:H p=some o):H1 p=some o:=a.same _ _ h
def Hw{xs:List V}{i:Int}{k:V->Prop}(h0:0<=i)(h1:i < xs.length)(h:∀ v∈xs,k v):aH (atI xs i) k:=by
 obtain⟨v,e,m⟩:=FC xs i h0 h1;rw [e];exact h v m
def Qw(CX:CXT)(P:Program)(w:World)(K:W.Frag)(mg:Str->Option Value)(base:Heap)(N:List Str)(qual:Str)(scope:Scope)(f:Addr)(cd:Value)(A:Around)(outer:List Env)(s:Shared)(H:Hp)(E:XK):(E3 CX P w K mg base N qual scope f cd A outer s H E).K=K:=rfl
def iY:∀ {a b:List Char},a.map Char.toNat=b.map Char.toNat->a=b
 | [],[],_=>rfl
 | [],_::_,h=>by cases h
 | _::_,[],h=>by cases h
 | x::r,y::q,h=>by
  simp only [RQ,U7] at h
  have e:x=y:=by
   have z:x.val.toNat=y.val.toNat:=h.1;exact Char.ext (UInt32.toNat_inj.mp z)
  rw [e,iY h.2]
def rH(a b:String):(Str.ofString a=Str.ofString b)=(a=b):=by
 refine propext ⟨λ h=>?_,λ h=>by rw [h]⟩;rw [Str.ofString_eq_toList,Str.ofString_eq_toList] at h;have e:(a.toList.map Char.toNat).toArray=(b.toList.map Char.toNat).toArray:=RS Str.cps h;have e2:=iY (RS Array.toList e);exact String.ext e2
def isW(H:Hp):V->Option Bool
 | .int _=>some true
 | .bl _=>some false
 | .non=>some false
 | .str _=>some false
 | .ref p=>((H p).bind tyO).map λ _=>false
 | _=>none
def Er(H:Hp)(i:Int):isW H (.int i)=some true:=rfl
def Jj(H:Hp)(i:Bool):isW H (.bl i)=some false:=rfl
def Ep(H:Hp):isW H .non=some false:=rfl
def Eo(H:Hp)(i:Str):isW H (.str i)=some false:=rfl
def j6(H:Hp)(p:Addr):isW H (.ref p)=((H p).bind tyO).map λ _=>false:=rfl
def kr{H:Hp}{p:Addr}{b:Bool}(h:isW H (.ref p)=some b):b=false/\∃ o,H p=some o/\(tyO o=some "list" \/ tyO o=some "tuple" \/ tyO o=some "dict"):=by
 rw [j6] at h
 cases e:H p with
 | none=>rw [e] at h;cases h
 | some o=>
  rw [e] at h;have h':(tyO o).map (λ _=>false)=some b:=h
  cases e2:tyO o with
  | none=>rw [e2] at h';cases h'
  | some t=>
   rw [e2] at h';cases h';refine⟨rfl,o,rfl,?_⟩
   cases o with
   | lst xs=>exact .inl rfl
   | tup xs=>exact .inr (.inl rfl)
   | dK xs=>exact .inr (.inr rfl)
   | dT xs=>exact .inr (.inr rfl)
   | frz ob u=>cases u with
    | lst xs=>exact .inl rfl
    | _=>cases e2
   | _=>cases e2
def ME(t:TE):Prop:=∀ σ H (Q Q':VK),(∀ v H,Q v H->Q' v H)->t σ H Q->t σ H Q'
def MT(t:TT):Prop:=∀ σ H (Q Q':Bool->Hp->Prop),(∀ b H,Q b H->Q' b H)->t σ H Q->t σ H Q'
def MA(t:TA):Prop:=∀ σ H (Q Q':List V->Hp->Prop),(∀ b H,Q b H->Q' b H)->t σ H Q->t σ H Q'
def MR(r:R2):Prop:=∀ x y H (Q Q':VK),(∀ v H,Q v H->Q' v H)->r x y H Q->r x y H Q'
def dF{α:Type}{o:Option α}{k k':α->Prop}(m:∀ x,k x->k' x)(h:aH o k):aH o k':=by
 obtain⟨x,e,q⟩:=ai h;rw [e];exact m x q
def yi{i:Nat}:ME (MZ i):=λ σ H Q Q' m ⟨v,e,q⟩=>⟨v,e,m _ _ q⟩
def Pr{v:V}:ME (tC v):=λ σ H Q Q' m q=>m _ _ q
def Kq{r:R2}{a b:TE}(hr:MR r)(ha:ME a)(hb:ME b):ME (tOp r a b):=λ σ H Q Q' m q=>ha σ H _ _ (λ _ _ q=>hb σ _ _ _ (λ _ _ q=>hr _ _ _ _ _ m q) q) q
def uW:MR xy:=λ x y H Q Q' m ⟨e,q⟩=>⟨e,m _ _ q⟩
def Fp{n:Bool}:MR (qEq n):=λ x y H Q Q' m q=>by
 unfold qEq at q ⊢
 by_cases hs:JW x y=true
 ·rw [Rc hs] at q ⊢;exact m _ _ q
 ·rw [Q5 hs] at q ⊢;exact dF (λ _ q=>dF (λ _ q=>m _ _ q) q) q
def Fq:MA JU:=λ σ H Q Q' m q=>m _ _ q
def sS{t:TE}(h:ME t):MT (Cb t):=λ σ H Q Q' m q=>h σ H _ _ (λ _ _ ⟨k,e,q⟩=>⟨k,e,m _ _ q⟩) q
def yx{c:TT}{tb:TS}{nx:St->Hp->Prop}{rt:VK}{bk ct:St->Hp->Prop}{σ:St}{H:Hp}(mono:MT c)(Pv:Nat->St->Hp->Prop)(m0:Nat)(h0:Pv m0 σ H)
  (hs:∀ m σ H,Pv m σ H->c σ H (kWh tb nx rt Pv m σ)):xG c tb ⟨nx,rt,bk,ct⟩ σ H:=GH Pv m0 h0 (λ σ H Q Q'=>mono σ H Q Q') hs
def u4:∀ {ns ms:List Int},ns.map V.int=ms.map V.int->ns=ms
 | [],[],_=>rfl
 | [],_::_,h=>by cases h
 | _::_,[],h=>by cases h
 | i::r,j::t,h=>by
  simp only [RQ,U7,V.int.injEq] at h;rw [h.1,u4 h.2]
def dR(F:List Int->Prop):List V->Prop:=λ xs=>∃ ns,xs=ns.map V.int/\F ns
def yS(F:List Int->Prop)(ns:List Int):dR F (ns.map V.int)=F ns:=propext ⟨λ ⟨ms,e,h⟩=>by rw [u4 e];exact h,λ h=>⟨ns,rfl,h⟩⟩
def A3(F:List Int->Prop)(a:Int):dR F [.int a]=F [a]:=yS F [a]
def iN{xs:List V}{i:Int}{k:V->Prop}(P:Int->Prop)(h0:0<=i)(h1:i < xs.length)(hx:∀ v∈xs,∃ j,v=.int j/\P j)(h:∀ j,P j->k (.int j)):aH (atI xs i) k:=Hw h0 h1 λ v hv=>by
 obtain⟨j,rfl,hj⟩:=hx v hv;exact h j hj
def vm(i j:Int)(h:i.natAbs < 2 ^ 256)(h':j.natAbs < 2 ^ 256):GB i j=True:=eq_true ⟨h,h'⟩
def EJ(xs:List V)(z:Int)(h:0<=z):mB xs none (some z)=xs.take z.toNat:=by
 unfold mB;rw [HT.sIx_none,List.drop_zero,Nat.sub_zero];obtain⟨n,rfl⟩:=Int.eq_ofNat_of_zero_le h;rw [HT.sIx_nat]
 show _=xs.take n
 rcases UU n xs.length with q|q
 ·rw [Uk q]
 ·rw [Ua q,Sa (QK _),Sa q]
def Qt(lo hi:Option Int)(H:Hp)(Q:VK):List V->Prop:=λ xs=>∀ p,H p=none->Q (.ref p) (upd H p (.lst (mB xs lo hi)))
def Pn:V->Option Int->Option Int->Hp->VK->Prop:=λ x lo hi H Q=>match x with
 | .ref a=>aH (az H a) (Qt lo hi H Q)
 | _=>False
def Qd{X:Cx}:SlR X Pn:=G9.mono λ x lo hi H Q h=>by
 unfold Pn at h;split at h
 ·rename_i a;obtain⟨xs,e,q⟩:=ai h;exact⟨a,xs,rfl,SqL.of (bp e),q⟩
 ·exact h.elim
def NC(r:V->Option Int->Option Int->Hp->VK->Prop)(x:V)(l:Option Int)(Q:VK):Option Int->Hp->Prop:=λ u H=>r x l u H Q
def LU(r:V->Option Int->Option Int->Hp->VK->Prop)(x:V)(l:Option Int)(Q:VK)(u:Option Int)(H:Hp):NC r x l Q u H=r x l u H Q:=rfl
def ND(r:V->Option Int->Option Int->Hp->VK->Prop)(th:TO)(σ:St)(x:V)(Q:VK):Option Int->Hp->Prop:=λ l H=>th σ H (NC r x l Q)
def LV(r:V->Option Int->Option Int->Hp->VK->Prop)(th:TO)(σ:St)(x:V)(Q:VK)(l:Option Int)(H:Hp):ND r th σ x Q l H=th σ H (NC r x l Q):=rfl
def Px(r:V->Option Int->Option Int->Hp->VK->Prop)(tl th:TO)(σ:St)(Q:VK):VK:=λ x H=>tl σ H (ND r th σ x Q)
def LW(r:V->Option Int->Option Int->Hp->VK->Prop)(tl th:TO)(σ:St)(Q:VK)(x:V)(H:Hp):Px r tl th σ Q x H=tl σ H (ND r th σ x Q):=rfl
def Oq(r:V->Option Int->Option Int->Hp->VK->Prop)(te:TE)(tl th:TO)(σ:St)(H:Hp)(Q:VK):tSl r te tl th σ H Q=te σ H (Px r tl th σ Q):=rfl
def AD(σ:St)(H:Hp)(Q:Option Int->Hp->Prop):yA σ H Q=Q none H:=rfl
def Kv(Q:Option Int->Hp->Prop):VK:=λ x H=>∃ i,x=.int i/\Q (some i) H
def Iv(Q:Option Int->Hp->Prop)(i:Int)(H:Hp):Kv Q (.int i) H=Q (some i) H:=propext ⟨λ ⟨_,e,q⟩=>by cases e;exact q,λ q=>⟨i,rfl,q⟩⟩
def HF(t:TE)(σ:St)(H:Hp)(Q:Option Int->Hp->Prop):J5 t σ H Q=t σ H (Kv Q):=rfl
def jb(o:HO)(H:Hp)(Q:VK):Prop:=∀ (p:Addr) (H':Hp),H p=none->Ext H H'->H' p=some o->Q (.ref p) H'
def jb.to{o:HO}{H:Hp}{Q:VK}(h:jb o H Q):∀ p,H p=none->Q (.ref p) (upd H p o):=λ p hp=>h p _ hp (Ext.new hp) ar
def kQT(Q:VK):List V->Hp->Prop:=λ xs H=>xs.length<=sizeLine/\jb (.tup xs) H Q
def OM(Q:VK)(xs:List V)(H:Hp):kQT Q xs H=(xs.length<=sizeLine/\jb (.tup xs) H Q):=rfl
def kQL(Q:VK):List V->Hp->Prop:=λ xs H=>xs.length<=sizeLine/\jb (.lst xs) H Q
def ON(Q:VK)(xs:List V)(H:Hp):kQL Q xs H=(xs.length<=sizeLine/\jb (.lst xs) H Q):=rfl
def Pm(t:TA):TE:=λ σ H Q=>t σ H (kQT Q)
def LJ(t:TA)(σ:St)(H:Hp)(Q:VK):Pm t σ H Q=t σ H (kQT Q):=rfl
def Nv(t:TA):TE:=λ σ H Q=>t σ H (kQL Q)
def LN(t:TA)(σ:St)(H:Hp)(Q:VK):Nv t σ H Q=t σ H (kQL Q):=rfl
section
variable {X:Cx}{es:List Expr}{t:TA}{pos:Pos}
def Hn{x1}(h:PA X es t):PE X (.Tuple es x1 pos) (Pm t):=by
 intro pins s σ H Q I hq;refine wpAny_Tuple_spliced (thn (h pos pins s σ H _ I hq) λ us s1 ⟨xs,H1,I1,r,z,q⟩=>⟨by rw [←r.length];exact z,?_⟩);have hf:H1 s1.heap.objs.size=none:=I1.hok.fresh (QK _);refine⟨.ref s1.heap.objs.size,upd H1 s1.heap.objs.size (.tup xs),I1.laid (t':=s1.toks) (λ b u e=>QC _ e) (QK _) ?_,rfl,q.to _ hf⟩;exact⟨z,us,r,⟨_,QN _ rfl,rfl,_,rfl⟩⟩
def Ho(h:PA X es t):PE X (.List es pos) (Nv t):=by
 intro pins s σ H Q I hq;refine wpAny_List_spliced (thn (h pos pins s σ H _ I hq) λ us s1 ⟨xs,H1,I1,r,z,q⟩=>⟨by rw [←r.length];exact z,?_⟩);have hf:H1 s1.heap.objs.size=none:=I1.hok.fresh (QK _);refine⟨.ref s1.heap.objs.size,upd H1 s1.heap.objs.size (.lst xs),I1.laid (t':=s1.toks) (λ b u e=>QC _ e) (QK _) ?_,rfl,q.to _ hf⟩;exact⟨z,us,0,r,QN _ rfl⟩
end
def kN(f:List V->HO)(H:Hp)(Q:VK):List V->Prop:=λ ys=>jb (f ys) H Q
def Qq(f:List V->HO)(H:Hp)(Q:VK)(ys:List V):kN f H Q ys=jb (f ys) H Q:=rfl
def Gh(xs:List V)(H:Hp)(Q:VK):Prop:=match xs with
 | [.ref p]=>aH (dh H p) (kN .lst H Q)
 | _=>False
def Ib(p:Addr)(H:Hp)(Q:VK):Gh [.ref p] H Q=aH (dh H p) (kN .lst H Q):=rfl
def gL{X:Cx}:cn X (.type "list") Gh:=xg.mono λ xs H Q h=>by
 unfold Gh at h;split at h
 ·exact dF (λ _ q=>q.to) h
 ·exact h.elim
def kNT(p:Addr)(H:Hp)(Q:VK):HO->Prop:=λ o=>match o with
 | .lst ys=>jb (.tup ys) H Q
 | .tup _=>Q (.ref p) H
 | _=>False
def Iy(p:Addr)(H:Hp)(Q:VK)(ys:List V):kNT p H Q (.lst ys)=jb (.tup ys) H Q:=rfl
def yg(xs:List V)(H:Hp)(Q:VK):Prop:=match xs with
 | [.ref p]=>aH (H p) (kNT p H Q)
 | _=>False
def DE(p:Addr)(H:Hp)(Q:VK):yg [.ref p] H Q=aH (H p) (kNT p H Q):=rfl
def iw{X:Cx}:cn X (.type "tuple") yg:=ud.mono λ xs H Q h=>by
 unfold yg at h;split at h
 ·refine dF (λ o q=>?_) h;unfold kNT at q;unfold Gm;split at q
  ·exact q.to
  ·exact q
  ·exact q.elim
 ·exact h.elim
def Nb(xs:List V)(H:Hp)(Q:VK):List V->Prop:=λ ys=>xs.length+ys.length<=sizeLine/\jb (.lst (xs++ys)) H Q
def L4(xs:List V)(H:Hp)(Q:VK)(ys:List V):Nb xs H Q ys=(xs.length+ys.length<=sizeLine/\jb (.lst (xs++ys)) H Q):=rfl
def NI(b:Addr)(H:Hp)(Q:VK):List V->Prop:=λ xs=>aH (az H b) (Nb xs H Q)
def L5(b:Addr)(H:Hp)(Q:VK)(xs:List V):NI b H Q xs=aH (az H b) (Nb xs H Q):=rfl
def M7:R2:=λ x y H Q=>match x,y with
 | .ref l,.ref b=>aH (az H l) (NI b H Q)
 | _,_=>False
def Fs(l b:Addr)(H:Hp)(Q:VK):M7 (.ref l) (.ref b) H Q=aH (az H l) (NI b H Q):=rfl
def fi{X:Cx}:OpR X (binaryOp .Add) M7:=Lj.mono λ x y H Q h=>by
 unfold M7 at h;split at h
 ·rw [LI];exact dF (λ _ q=>dF (λ _ q=>⟨q.1,q.2.to⟩) q) h
 ·exact h.elim
def kNS(lo hi:Option Int)(H:Hp)(Q:VK):List V->Prop:=λ xs=>jb (.lst (mB xs lo hi)) H Q
def OQ(lo hi:Option Int)(H:Hp)(Q:VK)(xs:List V):kNS lo hi H Q xs=jb (.lst (mB xs lo hi)) H Q:=rfl
def nSl:V->Option Int->Option Int->Hp->VK->Prop:=λ x lo hi H Q=>match x with
 | .ref a=>aH (az H a) (kNS lo hi H Q)
 | _=>False
def OC(a:Addr)(lo hi:Option Int)(H:Hp)(Q:VK):nSl (.ref a) lo hi H Q=aH (az H a) (kNS lo hi H Q):=rfl
def B4{X:Cx}:SlR X nSl:=Qd.mono λ x lo hi H Q h=>by
 unfold nSl at h;split at h
 ·exact dF (λ _ q=>q.to) h
 ·exact h.elim
def PE.mono{X:Cx}{e:Expr}{t t':TE}(h:PE X e t)(m:∀ σ H Q,t' σ H Q->t σ H Q):PE X e t':=λ pins s σ H Q I q=>h pins s σ H Q I (m _ _ _ q)
def Ko:TE:=λ _ H Q=>jb (.dK []) H Q
def Ic(σ:St)(H:Hp)(Q:VK):Ko σ H Q=jb (.dK []) H Q:=rfl
def iH{X:Cx}{pos:Pos}:PE X (.Dict [] [] pos) Ko:=Dn.mono λ _ _ _ h=>h.to
section
variable {prog:Program}{w:World}{A:Around}{E:Value->Shared->Prop}{s:Shared}
end
section
variable {X:Cx}{pos:Pos}
end
def Itv(K:W.Frag)(a:Addr)(xs:List V):It:=
 ⟨λ i H=>SqL K H a xs/\i < xs.length,λ i H x H'=>H'=H/\xs[xs.length - 1 - i]? = some x,λ i _=>i=xs.length⟩
def CK{P:Program}{w:World}{K:W.Frag}{tg:Expr}(a it:Addr)(xs:List V):B8 P w K tg (Itv K a xs) [it] it (λ i h=>i<=xs.length/\h.IsRevIter it a ((xs.length:Int) - 1 - (i:Int))) where
 mem:=by simp
 obj:=λ i h st b hb=>by
  have e:b=it:=by simpa using hb
  subst e;obtain⟨_,o,e,c,d⟩:=st;exact⟨o,e,λ v z=>by rw [d] at z;cases z⟩
 keep:=λ i h h' st k=>⟨st.1,st.2.at λ o e=>k it (by simp) o e⟩
 item:=by
  intro X hP hw hK hc i pins s σ H E I hf st hg;subst hP hw hK;obtain⟨hq,a3⟩:=hg;obtain⟨its,rv,p,hz⟩:=I.list hq;have hx:xs[xs.length - 1 - i]? = some (xs[xs.length - 1 - i]'(by omega)):=QB (by omega);obtain⟨u,hu,ru⟩:=rv.get hx;obtain⟨f0,f1,f2,f3,f4,f5⟩:=hf it (by simp);have aS:=st.2;rw [show ((xs.length:Int) - 1 - (i:Int))=((xs.length - 1 - i:Nat):Int) by omega] at aS;refine wpAny_pyNext_rev_item aS p.isList (x:=u) (by simpa using hu) λ h' aX sb=>?_;have I1:Inv X pins σ H { s with heap:=h' }:=I.turned (t':=s.toks) (λ b o hb e=>(sb.2 b hb).trans e) f0 f1 f3 f4 f5;obtain⟨o,e,c,d⟩:=id aX;rw [show (((xs.length - 1 - i:Nat):Int) - 1)=(xs.length:Int) - 1 - ((i+1:Nat):Int) by omega] at aX;exact⟨u,rfl,Co (s:={ s with heap:=h' }) e c d (by decide) ⟨_,H,I1,ru,⟨rfl,hx⟩,⟨a3,aX⟩,λ b hb=>(hf b hb).1⟩⟩
 done:=by
  intro X hP hw hK hc i pins s σ H E I hf st hg;subst hP hw hK;have e:i=xs.length:=hg;subst e;obtain⟨f0,f1,f2,f3,f4,f5⟩:=hf it (by simp);have aS:=st.2;rw [show ((xs.length:Int) - 1 - (xs.length:Int))=-1 by omega] at aS;exact wpAny_pyNext_rev_end (I.ok.hd hc) aS λ h' eb=>⟨rfl,I.turned (t':=s.toks) (λ b o hb e=>eb b o hb e) f0 f1 f3 f4 f5⟩
 self:=λ _ _ _ _ _ st h=>wpAny_pyIter_revIter st.2 h
def NF(K:W.Frag)(a:Addr)(H:Hp)(R:It->Hp->Prop):List V->Prop:=λ xs=>R (Itv K a xs) H
def LY(K:W.Frag)(a:Addr)(H:Hp)(R:It->Hp->Prop)(xs:List V):NF K a H R xs=R (Itv K a xs) H:=rfl
def M9(K:W.Frag)(R:It->Hp->Prop):List V->Hp->Prop:=λ vs H=>match vs with
 | [.ref a]=>aH (az H a) (NF K a H R)
 | _=>False
def LZ(K:W.Frag)(R:It->Hp->Prop)(a:Addr)(H:Hp):M9 K R [.ref a] H=aH (az H a) (NF K a H R):=rfl
def P1(K:W.Frag)(ta:TA):TI:=λ σ H R=>ta σ H (M9 K R)
def Mz(K:W.Frag)(ta:TA)(σ:St)(H:Hp)(R:It->Hp->Prop):P1 K ta σ H R=ta σ H (M9 K R):=rfl
section
variable {X:Cx}{tg:Expr}
def Fl{a:Expr}{ta:TA}{p pos:Pos}(hg:Gl X "reversed")(hm:X.mg "reversed"=none)(ha:PA X [a] ta)(hs:starEach [a] X.env=[(false,eval a X.env)]:=by rfl):PI X tg (.Call (.Name "reversed" p) [a] [] pos) (P1 X.K ta):=by
 intro pins s σ H R I h;refine Call_ (eV I hg hm (show bootBuiltins "reversed"=some (.type "reversed") by decide +kernel) (PyProof.Rows.callWith_type1 (thn (ha pos pins s σ H _ I h) λ us s1 ⟨vs,H1,I1,r1,q1⟩=>?_) hs rfl));unfold M9 at q1;split at q1
 ·rename_i b;obtain⟨xs,e,q⟩:=ai q1
  cases r1 with
  | cons r rr=>
   cases rr;cases r;obtain⟨its,rv,pl,hz⟩:=I1.list (SqL.of (bp e));refine call_reversed_list pl.isList ?_;have hsz:(its.toArray.size:Int)=(xs.length:Int):=by rw [←rv.length.symm];simp
   have I2:Inv X pins σ H1 { s1 with heap:=s1.heap.push (revObj b ((its.toArray.size:Int) - 1)) }:=I1.kept (t':=s1.toks) λ b o e=>QC _ e;have hit:(s1.heap.push (revObj b ((its.toArray.size:Int) - 1))).IsRevIter s1.heap.objs.size b ((xs.length:Int) - 1 - ((0:Nat):Int)):=⟨_,QN _ rfl,rfl,by rw [hsz];simp [revObj]⟩;refine wpAny_pyIter_revIter hit ⟨s1.heap.objs.size,[s1.heap.objs.size],_,_,H1,rfl,I2,CK b _ xs,⟨RP _,hit⟩,λ c hb=>?_,q⟩;have e:c=s1.heap.objs.size:=by simpa using hb
   subst e;exact I1.fpOk (QK _) (I1.hok.fresh (QK _))
 ·exact q1.elim
end
def yW{K:W.Frag}{a:Addr}{xs:List V}{g:TG}{tb:TS}{nx:St->Hp->Prop}{rt:VK}{bk ct:St->Hp->Prop}{σ:St}{H:Hp}(Pv:Nat->St->Hp->Prop)(h0:Pv 0 σ H)(hl:∀ i σ H,i<=xs.length->Pv i σ H->SqL K H a xs)
  (hs:∀ i x σ H,i < xs.length->xs[xs.length - 1 - i]? = some x->Pv i σ H->g x σ H (sk tb ⟨Pv (i+1),rt,nx,Pv (i+1)⟩)) (hd:∀ σ H,Pv xs.length σ H->nx σ H):FD g tb ⟨nx,rt,bk,ct⟩ σ (Itv K a xs) H:=by
 refine⟨λ i m σ H=>m=xs.length - i/\i<=xs.length/\Pv i σ H,⟨xs.length,by simp,RP _,h0⟩,?_⟩;rintro i m σ H ⟨rfl,hi,p⟩;have q:=hl i σ H hi p
 by_cases hlt:i < xs.length
 ·refine .inr ⟨⟨q,hlt⟩,Pv (i+1),λ σ' H' p'=>⟨xs.length - (i+1),by omega,rfl,hlt,p'⟩,λ x H' y=>?_⟩;obtain⟨e,y⟩:=y;subst e;exact hs i x σ _ hlt y p
 ·have e:i=xs.length:=by omega
  subst e;exact .inl ⟨rfl,hd σ H p⟩
def lu:∀ (n:Nat) (ns:List Int) (val:Nat->Int),(∀ i,val i=ns.getD i 0)->n<=ns.length->preSum val n=(ns.take n).sum
 | 0,ns,val,h,hl=>by simp [preSum]
 | n+1,ns,val,h,hl=>by
  have ih:=lu n ns val h (by omega)
  have e:ns.take (n+1)=ns.take n++[ns.getD n 0]:=by
   rw [Us,QB (by omega)];simp [List.getD,QB (show n < ns.length by omega)]
  rw [preSum,ih,e,List.sum_append,h];simp
def Gn(H:Hp)(Q:VK):List Int->Prop:=λ ns=>Q (.int ns.sum) H
def Il(H:Hp)(Q:VK)(ns:List Int):Gn H Q ns=Q (.int ns.sum) H:=rfl
def Nr:List V->Hp->VK->Prop:=λ vs H Q=>match vs with
 | [.ref p]=>aH (az H p) (dR (Gn H Q))
 | _=>False
def LK(p:Addr)(H:Hp)(Q:VK):Nr [.ref p] H Q=aH (az H p) (dR (Gn H Q)):=rfl
def NY(F:List Bool->Prop):List V->Prop:=λ xs=>∃ bs,xs=bs.map V.bl/\F bs
def zA:∀ {ns ms:List Bool},ns.map V.bl=ms.map V.bl->ns=ms
 | [],[],_=>rfl
 | [],_::_,h=>by cases h
 | _::_,[],h=>by cases h
 | i::r,j::t,h=>by
  simp only [RQ,U7,V.bl.injEq] at h;rw [h.1,zA h.2]
def Mo(F:List Bool->Prop)(bs:List Bool):NY F (bs.map V.bl)=F bs:=propext ⟨λ ⟨ms,e,h⟩=>by rw [zA e];exact h,λ h=>⟨bs,rfl,h⟩⟩
def Gy(H:Hp)(Q:VK):List Bool->Prop:=λ bs=>Q (.bl (bs.all id)) H
def IL(H:Hp)(Q:VK)(bs:List Bool):Gy H Q bs=Q (.bl (bs.all id)) H:=rfl
def Nx:List V->Hp->VK->Prop:=λ vs H Q=>match vs with
 | [.ref p]=>aH (az H p) (NY (Gy H Q))
 | _=>False
def LP(p:Addr)(H:Hp)(Q:VK):Nx [.ref p] H Q=aH (az H p) (NY (Gy H Q)):=rfl
section
variable {X:Cx}
def gd(hc:X.calm=true):cn X (.builtin "sum") Nr:=by
 intro pins s σ H vs us Q I r h;unfold Nr at h;split at h
 ·rename_i p;obtain⟨xs,e,ns,rfl,q⟩:=ai h
  cases r with
  | cons r rr=>
   cases rr;cases r;obtain⟨its,rv,pl,hz⟩:=I.list (SqL.of (bp e));have aS:p < s.heap.objs.size:=by obtain⟨_,e,_⟩:=pl.isList;exact QH e
   have hlen:its.length=ns.length:=by have:=rv.length;simpa using this.symm
   refine call_sum_walkAnyS (Si pl.isList ⟨s.heap.objs.size,_,_,_,_,_,_,λ i=>ns.getD i 0,rfl,(UL (show X.A.in1.handled=none from I.ok.hd hc) _ p (QY aS) its.toArray).toS,⟨⟨_,QN _ rfl,rfl,rfl⟩,pl.isList.push _⟩,λ b hb=>?_,λ i v hP=>?_,λ s' t' hm=>?_⟩)
   ·rw [Ri]
    rcases Q1.mp hb with rfl|hb
    ·exact RU _
    ·rw [QF.mp hb];exact Tn aS
   ·have hv:its[i]? = some v:=by simpa using hP
    have hi:i < ns.length:=by rw [←hlen];exact(QD.mp hv).1
    obtain⟨u,hu,ru⟩:=rv.get (i:=i) (x:=.int (ns.getD i 0)) (by rw [QL,QB hi];simp [List.getD,QB hi]);rw [hv] at hu;cases hu;exact ru
   ·obtain⟨hp,g,d,tk,os⟩:=s'
    have kp:∀ b o,s.heap.get? b=some o->hp.get? b=some o:=λ b o e=>hm.heap b o (λ aX=>by
     have:b=s.heap.objs.size:=by simpa using aX
     subst this;exact absurd (QH e) (Ry _)) (QC _ e)
    have e1:g=s.gens:=hm.gens;have e2:d=s.drawn:=hm.drawn;have e3:os=s.os:=hm.os;subst e1 e2 e3;refine⟨.int ns.sum,H,I.kept (t':=tk) kp,?_,q⟩;have es:=lu its.toArray.size ns (λ i=>ns.getD i 0) (λ _=>rfl) (by simp [hlen]);rw [show its.toArray.size=ns.length by simp [hlen],Rz] at es;rw [show its.toArray.size=ns.length by simp [hlen],es];exact⟨t',rfl⟩
 ·exact h.elim
def B1(bs:List Bool):(List.range bs.length).all (λ i=>bs.getD i false)=bs.all id:=by
 rw [Sx,SV,SV];refine⟨λ h x hx=>?_,λ h i hi=>?_⟩
 ·obtain⟨i,hi,e⟩:=SH hx;have:=h i (Rj.mpr hi)
  simpa [List.getD,QB hi,e] using this
 ·have aS:=Rj.mp hi;have:=h (bs[i]) (Sd aS)
  simpa [List.getD,QB aS] using this
def kX(hc:X.calm=true):cn X (.builtin "all") Nx:=by
 intro pins s σ H vs us Q I r h;unfold Nx at h;split at h
 ·rename_i p;obtain⟨xs,e,bs,rfl,q⟩:=ai h
  cases r with
  | cons r rr=>
   cases rr;cases r;obtain⟨its,rv,pl,hz⟩:=I.list (SqL.of (bp e));have aX:p < s.heap.objs.size:=by obtain⟨_,e,_⟩:=pl.isList;exact QH e
   have hlen:its.length=bs.length:=by have:=rv.length;simpa using this.symm
   refine call_all_walk (Si pl.isList ⟨s.heap.objs.size,_,_,_,_,_,λ i=>bs.getD i false,rfl,UL (show X.A.in1.handled=none from I.ok.hd hc) _ p (QY aX) its.toArray,⟨⟨_,QN _ rfl,rfl,rfl⟩,pl.isList.push _⟩,λ i v s' Q' E' hP hQ=>?_,λ h' tk hk=>?_⟩)
   ·have hv:its[i]? = some v:=by simpa using hP
    have hi:i < bs.length:=by rw [←hlen];exact(QD.mp hv).1
    obtain⟨u,hu,ru⟩:=rv.get (i:=i) (x:=.bl (bs.getD i false)) (by rw [QL,QB hi];simp [List.getD,QB hi]);rw [hv] at hu;cases hu;have e2:v=.bool (bs.getD i false):=ru;subst e2;exact RZ hQ
   ·have kp:∀ b o,s.heap.get? b=some o->h'.get? b=some o:=λ b o e=>hk b o (λ aS=>by
     have:b=s.heap.objs.size:=by simpa using aS
     subst this;exact absurd (QH e) (Ry _)) (QC _ e)
    refine⟨.bl (bs.all id),H,I.kept (t':=tk) kp,?_,q⟩;rw [show its.toArray.size=bs.length by simp [hlen],B1];exact rfl
 ·exact h.elim
end
structure Src(prog:Program)(w:World)(it:Addr)(fr:List Addr)(st:Nat->Heap->Prop)(val:Nat->Option Value):Prop where
 mem:it∈fr
 there:∀ k h,st k h->∀ b∈fr,∃ o,h.get? b=some o
 keep:∀ k h h',st k h->(∀ b∈fr,∀ o,h.get? b=some o->h'.get? b=some o)->st k h'
 item:∀ (A:Around) k s v (Q:Value->Shared->Prop) (E:Value->Shared->Prop),st k s.heap->val k=some v->(∀ h',st (k+1) h'->Heap.SameBut it s.heap h'->Q v { s with heap:=h' })->wpAny (model prog w) A (Builtin.SmallTypes.nextOf (.ref it)) Q E s
 fin:∀ (A:Around) k s (Q:Value->Shared->Prop) (E:Value->Shared->Prop),A.handled=none->st k s.heap->val k=none->(∀ h' e,Heap.ExtBut it s.heap h'->(∃ o,h'.get? e=some o/\o.cls=.type "StopIteration")->E (.ref e) { s with heap:=h' })->wpAny (model prog w) A (Builtin.SmallTypes.nextOf (.ref it)) Q E s
def CN{prog:Program}{w:World}(it l:Addr)(aS:l ≠ it)(xs:Array Value):Src prog w it [it,l] (λ k h=>h.IsListIter it l k/\h.IsList l xs) (λ k=>xs[k]?) where
 mem:=QP
 there:=λ k h st b hb=>by
  rcases Q1.mp hb with e|hb
  ·obtain⟨o,q,_⟩:=st.1;exact⟨o,by rw [e];exact q⟩
  ·obtain⟨o,q,_⟩:=st.2;exact⟨o,by rw [QF.mp hb];exact q⟩
 keep:=λ k h h' st q=>⟨st.1.at λ o e=>q it (by simp) o e,st.2.at λ o e=>q l (by simp) o e⟩
 item:=λ A k s v Q E st hv hQ=>wpAny_nextOf_list_item st.1 st.2 hv λ h' a b=>hQ h' ⟨a,st.2.extBut b.extBut aS⟩ b
 fin:=λ A k s Q E hh st hv hE=>wpAny_nextOf_list_end hh st.1 st.2 hv hE
section
variable {prog:Program}{w:World}{A:Around}{E:Value->Shared->Prop}{s:Shared}
def pA{j t:Addr}{k:Nat}{xs:Array Value}{v:Value}{Q:Value->Shared->Prop}(hj:s.heap.IsTupleIter j t k)(ht:s.heap.IsTuple t xs)(hv:xs[k]? = some v)
  (hQ:∀ g,g.IsTupleIter j t (k+1)->Heap.SameBut j s.heap g->Q v { s with heap:=g }):wpAny (model prog w) A (Builtin.SmallTypes.nextOf (.ref j)) Q E s:=by
 obtain⟨oj,h0,h1,h2⟩:=id hj;obtain⟨ot,g0,_,n,g1⟩:=ht;unfold Builtin.SmallTypes.nextOf;refine wpAny_bind (wpAny_callSpecial?_slot (name:=Str.ofString "__next__") hj.typeIs F.slot_tuple_iterator_next (wpAny_call_entry F.slot_tuple_iterator_next hj.typeIs F.entry_tuple_iterator_next ?_ (F.args_tuple_iterator_next_1 _)));refine wpAny_bind (m:=field (.ref j) 0) (wpAny_field h0 h2 (x:=.ref t) rfl ?_)
 show wpAny _ _ (if (Value.ref t == Value.none)=true then _ else _) _ _ _
 rw [Q5 (show ¬ ((.ref t:Value) == .none)=true from QS)];refine My (m:=field (.ref j) 1) (Rk h0 h2 (x:=.int k 0) rfl ?_);refine My (m:=seqItems? (.ref t)) (Rg g0 g1 ?_);simp only [QO,hv];refine My (wpAny_setField h0 h2 (by simp) (QI ⟨v,rfl,QI (hQ _ ⟨_,Rt _ h0 (Obj.isFreed_of_fields (Obj.data_mapFields h2 _)),(Obj.cls_mapFields ..).trans h1,?_⟩ (U3 ..))⟩));rw [Obj.data_mapFields h2];simp [rawInt]
def rJ{j t:Addr}{k:Nat}{xs:Array Value}{Q:Value->Shared->Prop}(hh:A.handled=none)(hj:s.heap.IsTupleIter j t k)(ht:s.heap.IsTuple t xs)(hv:xs[k]? = none)
  (hE:∀ g e,Heap.ExtBut j s.heap g->(∃ o,g.get? e=some o/\o.cls=.type "StopIteration")->E (.ref e) { s with heap:=g }):wpAny (model prog w) A (Builtin.SmallTypes.nextOf (.ref j)) Q E s:=by
 obtain⟨oj,h0,h1,h2⟩:=id hj;obtain⟨ot,g0,_,n,g1⟩:=ht;unfold Builtin.SmallTypes.nextOf;refine wpAny_bind (wpAny_callSpecial?_slot (name:=Str.ofString "__next__") hj.typeIs F.slot_tuple_iterator_next (wpAny_call_entry F.slot_tuple_iterator_next hj.typeIs F.entry_tuple_iterator_next ?_ (F.args_tuple_iterator_next_1 _)));refine wpAny_bind (m:=field (.ref j) 0) (wpAny_field h0 h2 (x:=.ref t) rfl ?_)
 show wpAny _ _ (if (Value.ref t == Value.none)=true then _ else _) _ _ _
 rw [Q5 (show ¬ ((.ref t:Value) == .none)=true from QS)];refine My (m:=field (.ref j) 1) (Rk h0 h2 (x:=.int k 0) rfl ?_);refine My (m:=seqItems? (.ref t)) (Rg g0 g1 ?_);simp only [QO,hv];refine My (T1 (My (wpAny_setField h0 h2 (by simp) (My (m:=newExc (.type "StopIteration") []) ?_))));simp only [newExc,newTuple];refine My (Se (My (m:=firstArgMember _ _) (wpAny_of_eq (a:=Value.none) (by first|rfl|(simp only [firstArgMember];rfl)) (Se ?_ (by size_fits)))) (by size_fits));simp only [raiseNew]
 refine My (wpAny_handled ?_);first|rw [show A.in1.handled=none from hh]|rw [hh]
 exact My (QI (wpAny_throw (hE _ _ (((U3 ..).extBut.push _).push _) ⟨_,QN _ rfl,rfl⟩)))
def G0(it l:Addr)(aS:l ≠ it)(xs:Array Value):Src prog w it [it,l] (λ k h=>h.IsTupleIter it l k/\h.IsTuple l xs) (λ k=>xs[k]?) where
 mem:=QP
 there:=λ k h st b hb=>by
  rcases Q1.mp hb with e|hb
  ·obtain⟨o,q,_⟩:=st.1;exact⟨o,by rw [e];exact q⟩
  ·obtain⟨o,q,_⟩:=st.2;exact⟨o,by rw [QF.mp hb];exact q⟩
 keep:=λ k h h' st q=>⟨st.1.at λ o e=>q it (by simp) o e,st.2.at λ o e=>q l (by simp) o e⟩
 item:=λ A k s v Q E st hv hQ=>pA st.1 st.2 hv λ h' a b=>hQ h' ⟨a,st.2.extBut b.extBut aS⟩ b
 fin:=λ A k s Q E hh st hv hE=>rJ hh st.1 st.2 hv hE
structure fP(z TI TO i j:Addr)(f g:List Addr):Prop where
 ti:TI ≠ z/\TI ≠ TO/\TI ≠ i/\TI ≠ j
 zt:z ≠ TO
 zf:z ∉ f
 zg:z ∉ g
 tf:TO ∉ f
 tg:TO ∉ g
 ig:i ∉ g
 jf:j ∉ f
variable {z TI TO i j:Addr}{f g:List Addr}{ti tj:Nat->Heap->Prop}{vi vj:Nat->Option Value}{k m:Nat}{x y a b:Value}
def bg{p q:Addr}{l:List Addr}(hp:p∈l)(hq:q ∉ l):p ≠ q:=λ e=>hq (e ▸ hp)
def Src.but{prog:Program}{w:World}{it:Addr}{fr:List Addr}{st:Nat->Heap->Prop}{val:Nat->Option Value}(S:Src prog w it fr st val){k:Nat}{c:Addr}{h h':Heap}(q:st k h)(e:Heap.ExtBut c h h')(hc:c ∉ fr):st k h':=
 S.keep k h h' q λ b hb o ho=>e b o (bg hb hc) ho
def zS(S:Src prog w i f ti vi)(T:Src prog w j g tj vj)(D:fP z TI TO i j f g){Q:Value->Shared->Prop}
  (hz:IsZip s.heap z TI TO .none) (aX:IsPair s.heap TI (.ref i) (.ref j)) (a3:IsPair s.heap TO a b) (hi:ti k s.heap) (hj:tj m s.heap) (hx:vi k=some x) (hy:vj m=some y)
  (hQ:∀ h',IsZip h' z TI TO (rawInt s.heap.objs.size)->IsPair h' TO x y->ti (k+1) h'->tj (m+1) h'->IsPair h' s.heap.objs.size x y->h'.objs.size=s.heap.objs.size+1->(∀ c o,c ∉ [z,TO,i,j]->s.heap.get? c=some o->h'.get? c=some o)->Q (.ref s.heap.objs.size) { s with heap:=h' }) :
  wpAny (model prog w) A (Builtin.«zip.__next__» ⟨[.ref z],[]⟩) (λ fin s'=>∃ v,fin=.done (.ret v)/\Q v s') E s:=by
 have iz:i ≠ z:=bg S.mem D.zf;have jz:j ≠ z:=bg T.mem D.zg;have a4:i ≠ TO:=bg S.mem D.tf;have a5:j ≠ TO:=bg T.mem D.tg;have ij:i ≠ j:=bg S.mem D.jf;refine wpAny_bind (m:=field (.ref z) 2) (wpAny_field hz rfl (x:=.bool false) rfl ?_);refine wpAny_bind (m:=field (.ref z) 3) (wpAny_field hz rfl (x:=.ref TI) rfl (wpAny_bind (wpAny_seqItems aX rfl ?_)));refine wpAny_bind (m:=Builtin.SmallTypes.ownedTupleIsFree (.ref z)) ?_;unfold Builtin.SmallTypes.ownedTupleIsFree;refine wpAny_bind (wpAny_field hz rfl (x:=.none) rfl (wpAny_pure ?_));simp only [if_true];refine wpAny_bind (wpAny_rule (wpAny_bind (wpAny_field hz rfl (x:=.ref TO) rfl (wpAny_bind (wpAny_setField_rec hz (by simp) λ q1 z1 s1=>?_)))));replace z1:IsZip q1 z TI TO .ellipsis:=z1;refine wpAny_bind ?_;simp only [List.zipIdx_cons,List.zipIdx_nil,forIn_cons,forIn_nil];refine wpAny_bind (wpAny_bind (wpAny_onRaise (wpAny_bind (m:=Builtin.SmallTypes.nextOf (.ref i)) (S.item _ k _ x _ _ (S.but hi s1.extBut D.zf) hx λ q2 i2 s2=>wpAny_pure ?_))));have o2:IsPair q2 TO a b:=s2.extBut _ _ a4.symm (s1.extBut _ _ D.zt.symm a3);refine wpAny_bind (wpAny_seqItems o2 rfl (wpAny_bind (wpAny_updateSeq_pair o2 λ q3 o3 s3=>wpAny_bind (wpAny_letGo (wpAny_pure ?_)))));replace o3:IsPair q3 TO x b:=o3;have j3:tj m q3:=T.but (T.but (T.but hj s1.extBut D.zg) s2.extBut D.ig) s3.extBut D.tg;refine wpAny_bind (wpAny_bind (wpAny_onRaise (wpAny_bind (m:=Builtin.SmallTypes.nextOf (.ref j)) (T.item _ m _ y _ _ j3 hy λ q4 j4 s4=>wpAny_pure ?_))));have o4:IsPair q4 TO x b:=s4.extBut _ _ a5.symm o3;refine wpAny_bind (wpAny_seqItems o4 rfl (wpAny_bind (wpAny_updateSeq_pair o4 λ q5 o5 s5=>wpAny_bind (wpAny_letGo (wpAny_pure (wpAny_pure ?_))))));replace o5:IsPair q5 TO x y:=o5;refine wpAny_bind (wpAny_seqItems o5 rfl (wpAny_bind (wpAny_newTuple ?_)));have sz:q5.objs.size=s.heap.objs.size:=by rw [s5.1,s4.1,s3.1,s2.1,s1.1]
 have z5:IsZip q5 z TI TO .ellipsis:=s5.extBut _ _ D.zt (s4.extBut _ _ jz.symm (s3.extBut _ _ D.zt (s2.extBut _ _ iz.symm z1)))
 have k5:∀ c o,c ∉ [z,TO,i,j]->s.heap.get? c=some o->q5.get? c=some o:=λ c o hc e=>by
  simp only [Q1,QR,Rm,Th] at hc;exact s5.extBut _ _ hc.2.1 (s4.extBut _ _ hc.2.2.2 (s3.extBut _ _ hc.2.1 (s2.extBut _ _ hc.2.2.1 (s1.extBut _ _ hc.1 e))))
 have i5:ti (k+1) q5:=S.but (S.but (S.but i2 s3.extBut D.tf) s4.extBut D.jf) s5.extBut D.tf;have j5:tj (m+1) q5:=T.but j4 s5.extBut D.tg;have aS:z < q5.objs.size:=Heap.lt_size z5;refine wpAny_bind (m:=Builtin.SmallTypes.ownedTupleHandOut (.ref z) (.ref q5.objs.size)) ?_;unfold Builtin.SmallTypes.ownedTupleHandOut;have z6:IsZip (q5.push { cls:=.type "tuple",data:=.seq #[x,y] }) z TI TO .ellipsis:=Heap.get?_push_of_some _ z5;refine wpAny_bind (wpAny_setField_rec z6 (by simp) λ q7 z7 s7=>?_);replace z7:IsZip q7 z TI TO (rawInt q5.objs.size):=z7;refine wpAny_setField_rec z7 (by simp) λ q8 z8 s8=>?_;replace z8:IsZip q8 z TI TO (rawInt q5.objs.size):=z8;have up:∀ c o,c ≠ z->q5.get? c=some o->q8.get? c=some o:=λ c o hc e=>s8.extBut _ _ hc (s7.extBut _ _ hc (Heap.get?_push_of_some _ e));have t8:IsPair q8 q5.objs.size x y:=s8.extBut _ _ (Nat.ne_of_gt aS) (s7.extBut _ _ (Nat.ne_of_gt aS) (Heap.get?_push_size _ rfl));have n8:q8.objs.size=q5.objs.size+1:=by rw [s8.1,s7.1,Heap.size_push]
 rw [sz] at z8 t8 n8;refine QI ⟨_,rfl,?_⟩
 show Q (.ref q5.objs.size) _
 rw [sz];exact hQ q8 z8 (up _ _ D.zt.symm o5) (S.keep _ _ _ i5 λ c hc o e=>up c o (bg hc D.zf) e) (T.keep _ _ _ j5 λ c hc o e=>up c o (bg hc D.zg) e) t8 n8 λ c o hc e=>up c o (λ q=>hc (by simp [q])) (k5 c o hc e)
def CB(hh:A.handled=none)(S:Src prog w i f ti vi)(T:Src prog w j g tj vj)(D:fP z TI TO i j f g){Q:Fin->Shared->Prop}
  (hz:IsZip s.heap z TI TO .none) (aX:IsPair s.heap TI (.ref i) (.ref j)) (a3:IsPair s.heap TO a b) (hi:ti k s.heap) (hj:tj m s.heap) (a4:vi k=none\/vj m=none)
  (hE:∀ h' e,(∀ c o,c ∉ [z,TO,i,j]->s.heap.get? c=some o->h'.get? c=some o)->(∃ o,h'.get? e=some o/\o.cls=.type "StopIteration")->E (.ref e) { s with heap:=h' }) :
  wpAny (model prog w) A (Builtin.«zip.__next__» ⟨[.ref z],[]⟩) Q E s:=by
 have iz:i ≠ z:=bg S.mem D.zf;have jz:j ≠ z:=bg T.mem D.zg;have a5:i ≠ TO:=bg S.mem D.tf;have a6:j ≠ TO:=bg T.mem D.tg;refine wpAny_bind (m:=field (.ref z) 2) (wpAny_field hz rfl (x:=.bool false) rfl ?_);refine wpAny_bind (m:=field (.ref z) 3) (wpAny_field hz rfl (x:=.ref TI) rfl (wpAny_bind (wpAny_seqItems aX rfl ?_)));refine wpAny_bind (m:=Builtin.SmallTypes.ownedTupleIsFree (.ref z)) ?_;unfold Builtin.SmallTypes.ownedTupleIsFree;refine wpAny_bind (wpAny_field hz rfl (x:=.none) rfl (wpAny_pure ?_));simp only [if_true];refine wpAny_bind (wpAny_rule (wpAny_bind (wpAny_field hz rfl (x:=.ref TO) rfl (wpAny_bind (wpAny_setField_rec hz (by simp) λ q1 z1 s1=>?_)))));replace z1:IsZip q1 z TI TO .ellipsis:=z1;refine wpAny_bind ?_;simp only [List.zipIdx_cons,List.zipIdx_nil,forIn_cons,forIn_nil];refine wpAny_bind (wpAny_bind (wpAny_onRaise (wpAny_bind (m:=Builtin.SmallTypes.nextOf (.ref i)) ?_)))
 cases hx:vi k with
 | none=>
  refine S.fin _ k _ _ _ hh (S.but hi s1.extBut D.zf) hx λ q2 e s2 ⟨oe,he,aS⟩=>?_;have z2:IsZip q2 z TI TO .ellipsis:=s2 _ _ iz.symm z1;have ez:e ≠ z:=λ q=>by subst q;rw [z2] at he;cases he;simp at aS
  refine Ru z2 (by simp) λ q3 _ s3=>hE q3 e (λ c o hc q=>?_) ⟨oe,s3.extBut _ _ ez he,aS⟩;simp only [Q1,QR,Rm,Th] at hc;exact s3.extBut _ _ hc.1 (s2 _ _ hc.2.2.1 (s1.extBut _ _ hc.1 q))
 | some x=>
  have hy:vj m=none:=a4.resolve_left (by rw [hx];exact TH x);refine S.item _ k _ x _ _ (S.but hi s1.extBut D.zf) hx λ q2 i2 s2=>QI ?_;have o2:IsPair q2 TO a b:=s2.extBut _ _ a5.symm (s1.extBut _ _ D.zt.symm a3);refine My (Rg o2 rfl (My (UM o2 λ q3 o3 s3=>My (RY (QI ?_)))));have j3:tj m q3:=T.but (T.but (T.but hj s1.extBut D.zg) s2.extBut D.ig) s3.extBut D.tg;refine My (My (Ss (My (m:=Builtin.SmallTypes.nextOf (.ref j)) (T.fin _ m _ _ _ hh j3 hy λ q4 e s4 ⟨oe,he,aS⟩=>?_))));have z4:IsZip q4 z TI TO .ellipsis:=s4 _ _ jz.symm (s3.extBut _ _ D.zt (s2.extBut _ _ iz.symm z1));have ez:e ≠ z:=λ q=>by subst q;rw [z4] at he;cases he;simp at aS
  refine Ru z4 (by simp) λ q5 _ s5=>hE q5 e (λ c o hc q=>?_) ⟨oe,s5.extBut _ _ ez he,aS⟩;simp only [Q1,QR,Rm,Th] at hc;exact s5.extBut _ _ hc.1 (s4 _ _ hc.2.2.2 (s3.extBut _ _ hc.2.1 (s2.extBut _ _ hc.2.2.1 (s1.extBut _ _ hc.1 q))))
def gT(S:Src prog w i f ti vi)(T:Src prog w j g tj vj)(D:fP z TI TO i j f g){Q:Option Value->Shared->Prop}
  (hz:IsZip s.heap z TI TO .none) (aS:IsPair s.heap TI (.ref i) (.ref j)) (aX:IsPair s.heap TO a b) (hi:ti k s.heap) (hj:tj m s.heap) (hx:vi k=some x) (hy:vj m=some y)
  (hQ:∀ h',IsZip h' z TI TO (rawInt s.heap.objs.size)->IsPair h' TO x y->ti (k+1) h'->tj (m+1) h'->IsPair h' s.heap.objs.size x y->h'.objs.size=s.heap.objs.size+1->(∀ c o,c ∉ [z,TO,i,j]->s.heap.get? c=some o->h'.get? c=some o)->Q (some (.ref s.heap.objs.size)) { s with heap:=h' }) :
  wpAny (model prog w) A (pyNext (.ref z)) Q E s:=by
 have ty:s.TypeIs (.ref z) "zip":=⟨_,hz,rfl⟩;unfold pyNext;exact wpAny_bind (wpAny_attempt (wpAny_callSpecial?_slot (name:=Str.ofString "__next__") ty F.slot_zip_next (wpAny_call_entry F.slot_zip_next ty F.entry_zip_next (zS S T D hz aS aX hi hj hx hy λ h' c1 c2 c3 c4 c5 c6 c7=>wpAny_pure (hQ h' c1 c2 c3 c4 c5 c6 c7)) (F.args_zip_next_1 _))))
def iV(hh:A.handled=none)(S:Src prog w i f ti vi)(T:Src prog w j g tj vj)(D:fP z TI TO i j f g){Q:Option Value->Shared->Prop}
  (hz:IsZip s.heap z TI TO .none) (aS:IsPair s.heap TI (.ref i) (.ref j)) (aX:IsPair s.heap TO a b) (hi:ti k s.heap) (hj:tj m s.heap) (a3:vi k=none\/vj m=none)
  (hQ:∀ h',(∀ c o,c ∉ [z,TO,i,j]->s.heap.get? c=some o->h'.get? c=some o)->Q none { s with heap:=h' }):wpAny (model prog w) A (pyNext (.ref z)) Q E s:=by
 have ty:s.TypeIs (.ref z) "zip":=⟨_,hz,rfl⟩;unfold pyNext;refine wpAny_bind (wpAny_attempt (wpAny_callSpecial?_slot (name:=Str.ofString "__next__") ty F.slot_zip_next (wpAny_call_entry F.slot_zip_next ty F.entry_zip_next (CB (show A.in1.handled=none from hh) S T D hz aS aX hi hj a3 λ h' e kp he=>?_) (F.args_zip_next_1 _))));obtain⟨o,ho,hc⟩:=he;exact wpAny_bind (wpAny_isInstance (T := "StopIteration") (b:=true) ⟨o,ho,hc⟩ isSubtype_stop (wpAny_pure (hQ _ kp)))
end
def SeqAt(h:Heap)(k:Bool)(l:Addr)(xs:Array Value):Prop:=match k with
 | true=>h.IsTuple l xs
 | false=>h.IsList l xs
def bh(h:Heap)(k:Bool)(it l:Addr)(n:Nat):Prop:=match k with
 | true=>h.IsTupleIter it l n
 | false=>h.IsListIter it l n
def lZ(k:Bool)(l:Addr):Obj:=match k with
 | true=>{ cls:=.type "tuple_iterator",data:=.fields #[.ref l,.int 0 0] }
 | false=>{ cls:=.type "list_iterator",data:=.fields #[.ref l,.int 0 0] }
def SeqAt.at{h h':Heap}{k:Bool}{l:Addr}{xs:Array Value}(q:SeqAt h k l xs)(e:∀ o,h.get? l=some o->h'.get? l=some o):SeqAt h' k l xs:=by
 cases k
 ·exact Heap.IsList.at q e
 ·exact Heap.IsTuple.at q e
def SeqAt.obj{h:Heap}{k:Bool}{l:Addr}{xs:Array Value}(q:SeqAt h k l xs):∃ o n,h.get? l=some o/\o.data=.seq xs n:=by
 cases k
 ·obtain⟨o,e,_,n,d⟩:=(show h.IsList l xs from q);exact⟨o,n,e,d⟩
 ·obtain⟨o,e,_,n,d⟩:=(show h.IsTuple l xs from q);exact⟨o,n,e,d⟩
def bh.at{h h':Heap}{k:Bool}{it l:Addr}{n:Nat}(q:bh h k it l n)(e:∀ o,h.get? it=some o->h'.get? it=some o):bh h' k it l n:=by
 cases k
 ·exact Heap.IsListIter.at q e
 ·exact Heap.IsTupleIter.at q e
def bh.obj{h:Heap}{k:Bool}{it l:Addr}{n:Nat}(q:bh h k it l n):∃ o fs,h.get? it=some o/\o.data=.fields fs:=by
 cases k
 ·obtain⟨o,e,_,d⟩:=(show h.IsListIter it l n from q);exact⟨o,_,e,d⟩
 ·obtain⟨o,e,_,d⟩:=(show h.IsTupleIter it l n from q);exact⟨o,_,e,d⟩
def dU{prog:Program}{w:World}(k:Bool)(it l:Addr)(aS:l ≠ it)(xs:Array Value):Src prog w it [it,l] (λ n h=>bh h k it l n/\SeqAt h k l xs) (λ n=>xs[n]?):=by
 cases k
 ·exact CN it l aS xs
 ·exact G0 it l aS xs
section
variable {prog:Program}{w:World}{A:Around}{E:Value->Shared->Prop}{s:Shared}
def ko{k:Bool}{l:Addr}{xs:Array Value}{Q:Value->Shared->Prop}(h:SeqAt s.heap k l xs)(hQ:Q (.ref s.heap.objs.size) { s with heap:=s.heap.push (lZ k l) }):wpAny (model prog w) A (pyIter (.ref l)) Q E s:=by
 cases k
 ·exact Si h hQ
 ·exact wpAny_pyIter_tuple h hQ
abbrev zq1(ka:Bool)(a:Addr)(h:Heap):Heap:=h.push (lZ ka a)
abbrev zq2(ka kb:Bool)(a b:Addr)(h:Heap):Heap:=(zq1 ka a h).push (lZ kb b)
abbrev zq3(ka kb:Bool)(a b:Addr)(h:Heap):Heap:=(zq2 ka kb a b h).push { cls:=.type "tuple",data:=.seq #[.ref h.objs.size,.ref (zq1 ka a h).objs.size] }
abbrev zq4(ka kb:Bool)(a b:Addr)(h:Heap):Heap:=(zq3 ka kb a b h).push { cls:=.type "tuple",data:=.seq #[.none,.none] }
abbrev zq5(ka kb:Bool)(a b:Addr)(h:Heap):Heap:=(zq4 ka kb a b h).push { cls:=.type "zip",data:=.fields #[.none,.bool false,.bool false,.ref (zq2 ka kb a b h).objs.size,.ref (zq3 ka kb a b h).objs.size] }
def zO(ka kb:Bool)(a b:Addr)(xs ys:Array Value):Meets (Builtin.«zip.__new__» ⟨[.type "zip",.ref a,.ref b],[]⟩) (λ _ R s=>SeqAt s.heap ka a xs/\SeqAt s.heap kb b ys/\R (.ok (.ret (.ref (zq4 ka kb a b s.heap).objs.size))) { s with heap:=zq5 ka kb a b s.heap }):=
 .of_wp λ prog w A R s h=>by
  obtain⟨hp,g,d,tk,os⟩:=s;obtain⟨h1,h2,h⟩:=h;have aS:=sub_zip;have q1:SeqAt (Shared.heap ⟨hp,g,d,tk,os⟩) ka a xs:=h1;have q2:SeqAt (Shared.heap ⟨hp.push (lZ ka a),g,d,tk,os⟩) kb b ys:=h2.at λ o e=>QC _ e
  wp_walk using ko q1,ko q2
  exact⟨_,rfl,h⟩
def zu{ka kb:Bool}{a b:Addr}{xs ys:Array Value}{Q:Value->Shared->Prop}(h1:SeqAt s.heap ka a xs)(h2:SeqAt s.heap kb b ys)
  (h:∀ h' n,n=s.heap.objs.size->IsZip h' (n+4) (n+2) (n+3) .none->IsPair h' (n+2) (.ref n) (.ref (n+1))->IsPair h' (n+3) .none .none->bh h' ka n a 0->bh h' kb (n+1) b 0->h'.objs.size=n+5->(∀ c o,s.heap.get? c=some o->h'.get? c=some o)->Q (.ref (n+4)) { s with heap:=h' }) :
  wpAny (model prog w) A (call (.type "zip") [.ref a,.ref b]) Q E s:=by
 refine callType_new F.called_zip (by decide) (F.typeCall_zip_2 _ _) (F.newCall_zip_2 _ _) (λ ob=>F.args_object_init_3 ob _ _) F.entry_zip_new (zO ka kb a b xs ys) ⟨h1,h2,?_⟩;have n1:(zq1 ka a s.heap).objs.size=s.heap.objs.size+1:=Ri ..;have n2:(zq2 ka kb a b s.heap).objs.size=s.heap.objs.size+2:=by rw [Ri,n1]
 have n3:(zq3 ka kb a b s.heap).objs.size=s.heap.objs.size+3:=by rw [Ri,n2]
 have n4:(zq4 ka kb a b s.heap).objs.size=s.heap.objs.size+4:=by rw [Ri,n3]
 have n5:(zq5 ka kb a b s.heap).objs.size=s.heap.objs.size+5:=by rw [Ri,n4]
 have f1:bh (zq1 ka a s.heap) ka s.heap.objs.size a 0:=by
  cases ka<;>exact⟨_,QN _ rfl,rfl,rfl⟩
 have f2:bh (zq2 ka kb a b s.heap) kb (zq1 ka a s.heap).objs.size b 0:=by
  cases kb<;>exact⟨_,QN _ rfl,rfl,rfl⟩
 have u2:∀ c o,(zq2 ka kb a b s.heap).get? c=some o->(zq5 ka kb a b s.heap).get? c=some o:=λ c o e=>QC _ (QC _ (QC _ e));have g5:(zq5 ka kb a b s.heap).get? (zq4 ka kb a b s.heap).objs.size=some _:=QN _ rfl;have g4:(zq5 ka kb a b s.heap).get? (zq3 ka kb a b s.heap).objs.size=some _:=QC _ (QN _ rfl);have g3:(zq5 ka kb a b s.heap).get? (zq2 ka kb a b s.heap).objs.size=some _:=QC _ (QC _ (QN _ rfl));have e1:bh (zq5 ka kb a b s.heap) ka s.heap.objs.size a 0:=f1.at λ o e=>u2 _ o (QC _ e);have e2:bh (zq5 ka kb a b s.heap) kb (zq1 ka a s.heap).objs.size b 0:=f2.at λ o e=>u2 _ o e
 show _/\_
 rw [n2,n3,n4] at g5;rw [n1,n2] at g3;rw [n3] at g4;rw [n1] at e2;rw [n4];exact⟨⟨_,g5,rfl⟩,h _ _ rfl g5 g3 g4 e1 e2 n5 λ c o e=>u2 c o (QC _ (QC _ e))⟩
end
section
variable {X:Cx}{pins:List (Addr × Obj)}{σ:List (Option V)}{H:Hp}{s:Shared}{h':Heap}
def Inv.turnNew{t':Nat}{ch:List Addr}{n:Addr}{o:HO}(I:Inv X pins σ H s)(aS:∀ b∈ch,r0 X pins H b)(k:∀ b ob,b ∉ ch->s.heap.get? b=some ob->h'.get? b=some ob)(hn:s.heap.objs.size<=n)(new:cF X.prog X.w (upd H n o) h' n o) :
  Inv X pins σ (upd H n o) { s with heap:=h',toks:=t' }:=by
 have fn:=I.hok.fresh hn;have up:∀ {b u},H b=some u->upd H n o b=some u:=λ {b u} e=>by rw [ah (cz e fn)];exact e
 have aX:∀ {b u},H b=some u->b ∉ ch:=λ {b u} e z=>by rw [(aS b z).1] at e;cases e
 refine I.step (g':=s.gens) (d':=s.drawn) (ch:=ch) (λ b hb=>⟨(aS b hb).2.2.2.1,(aS b hb).2.1,(aS b hb).2.2.2.2.1,(aS b hb).2.2.2.2.2⟩) (λ b ob _ _ hc e _=>k b ob hc e) (λ b ob _ _ hc e _=>⟨ob.slots,k b ob hc e⟩)
  (λ b ob _ e q=>?_) (λ b ob hc e=>⟨ob,k b ob hc e⟩) (λ _ _ e=>up e) (λ _ _ _ e=>up e) (λ b ps e=>⟨#[],by rw [up e];simp⟩) (λ m hm=>?_) (λ b u e=>?_) I.bare
 ·rw [ah (QY (Q0 (QH e) hn))];exact q
 ·obtain⟨ol,es,ep,ho,r⟩:=hm;exact⟨ol,es,ep,k _ ol (λ z=>(aS _ z).2.1 rfl) ho,r⟩
 ·by_cases hb:b=n
  ·subst hb;rw [ar] at e;cases e;exact new
  ·rw [ah hb] at e;refine(I.hok b u e).stay (λ c v hc q=>k c v ?_ q) (λ c q=>up q) λ c xs q=>up q
   rcases hc with rfl|hc
   ·exact aX e
   ·exact aX hc
def Inv.turnL{t':Nat}{ch:List Addr}(I:Inv X pins σ H s)(aS:∀ b∈ch,r0 X pins H b)(k:∀ b ob,b ∉ ch->s.heap.get? b=some ob->h'.get? b=some ob):Inv X pins σ H { s with heap:=h',toks:=t' }:=by
 have aX:∀ {b u},H b=some u->b ∉ ch:=λ {b u} e z=>by rw [(aS b z).1] at e;cases e
 refine I.step (g':=s.gens) (d':=s.drawn) (ch:=ch) (λ b hb=>⟨(aS b hb).2.2.2.1,(aS b hb).2.1,(aS b hb).2.2.2.2.1,(aS b hb).2.2.2.2.2⟩) (λ b ob _ _ hc e _=>k b ob hc e) (λ b ob _ _ hc e _=>⟨ob.slots,k b ob hc e⟩)
  (λ _ _ _ _ q=>q) (λ b ob hc e=>⟨ob,k b ob hc e⟩) (λ _ _ e=>e) (λ _ _ _ e=>e) (λ b ps e=>⟨#[],by rw [e];simp⟩) (λ m hm=>?_) (λ b u e=>?_) I.bare
 ·obtain⟨ol,es,ep,ho,r⟩:=hm;exact⟨ol,es,ep,k _ ol (λ z=>(aS _ z).2.1 rfl) ho,r⟩
 ·refine(I.hok b u e).stay (λ c v hc q=>k c v ?_ q) (λ _ q=>q) λ _ _ q=>q
  rcases hc with rfl|hc
  ·exact aX e
  ·exact aX hc
end
def SqK(k:Bool)(H:Hp)(a:Addr)(xs:List V):Prop:=match k with
 | true=>H a=some (.tup xs)
 | false=>H a=some (.lst xs)
def SqK.ne{k:Bool}{H:Hp}{a b:Addr}{xs:List V}(h:SqK k H a xs)(e:H b=none):a ≠ b:=λ z=>by
 subst z;cases k
 ·rw [show H a=some (.lst xs) from h] at e;cases e
 ·rw [show H a=some (.tup xs) from h] at e;cases e
def Inv.sq{X:Cx}{pins:List (Addr × Obj)}{σ:St}{H:Hp}{s:Shared}{k:Bool}{a:Addr}{xs:List V}(I:Inv X pins σ H s)(h:SqK k H a xs):∃ its:List Value,aY xs its/\SeqAt s.heap k a its.toArray:=by
 cases k
 ·obtain⟨its,r,p,_⟩:=I.list (SqL.of h);exact⟨its,r,p.isList⟩
 ·obtain⟨its,r,p,_⟩:=I.tuple (SqT.of h);exact⟨its,r,p⟩
def Itz(ka kb:Bool)(a b:Addr)(xs ys:List V):It:=
 ⟨λ i H=>SqK ka H a xs/\SqK kb H b ys/\i < xs.length/\i < ys.length,λ i H x H'=>∃ p u v,H p=none/\x=.ref p/\xs[i]? = some u/\ys[i]? = some v/\H'=upd H p (.tup [u,v]),λ i H=>SqK ka H a xs/\SqK kb H b ys/\(xs.length<=i\/ys.length<=i)⟩
def Tnz(ka kb:Bool)(a b z TI TO p q:Addr)(i:Nat)(h:Heap):Prop:=IsZip h z TI TO .none/\IsPair h TI (.ref p) (.ref q)/\(∃ u v,IsPair h TO u v)/\bh h ka p a i/\bh h kb q b i
def CJ{P:Program}{w:World}{K:W.Frag}{elts:List Expr}{x1}{tp:Pos}(ka kb:Bool)(a b z TI TO p q:Addr)(xs ys:List V)(nd:[z,TI,TO,p,q].Nodup):B8 P w K (.Tuple elts x1 tp) (Itz ka kb a b xs ys) [z,TI,TO,p,q] z (Tnz ka kb a b z TI TO p q) where
 mem:=QP
 obj:=λ i h st c hc=>by
  obtain⟨e1,e2,⟨u,v,e3⟩,e4,e5⟩:=st;simp only [Q1,QR,Rm] at hc
  rcases hc with rfl|rfl|rfl|rfl|rfl
  ·exact⟨_,e1,λ v z=>by cases z⟩
  ·exact⟨_,e2,λ v z=>by cases z⟩
  ·exact⟨_,e3,λ v z=>by cases z⟩
  ·obtain⟨o,fs,e,d⟩:=e4.obj;exact⟨o,e,λ v z=>by rw [d] at z;cases z⟩
  ·obtain⟨o,fs,e,d⟩:=e5.obj;exact⟨o,e,λ v z=>by rw [d] at z;cases z⟩
 keep:=λ i h h' st k=>by
  obtain⟨e1,e2,⟨u,v,e3⟩,e4,e5⟩:=st;exact⟨k z (by simp) _ e1,k TI (by simp) _ e2,⟨u,v,k TO (by simp) _ e3⟩,e4.at λ o e=>k p (by simp) o e,e5.at λ o e=>k q (by simp) o e⟩
 item:=by
  intro X hP hw hK hc i pins s σ H E I hf st hg;subst hP hw hK;obtain⟨e1,e2,⟨u0,v0,e3⟩,e4,e5⟩:=st;obtain⟨ha,hb,l1,l2⟩:=hg;obtain⟨as,ra,sa⟩:=I.sq ha;obtain⟨bs,rb,sb⟩:=I.sq hb;have hx:xs[i]? = some xs[i]:=QB l1;have hy:ys[i]? = some ys[i]:=QB l2;obtain⟨u,hu,ru⟩:=ra.get hx;obtain⟨v,hv,rv⟩:=rb.get hy;have free:∀ c∈[z,TI,TO,p,q],H c=none:=λ c h=>(hf c h).1;have aS:∀ c∈[z,TI,TO,p,q],a ≠ c:=λ c h=>ha.ne (free c h);have aX:∀ c∈[z,TI,TO,p,q],b ≠ c:=λ c h=>hb.ne (free c h);simp only [Sb,Q1,QR,Rm,Th,SO,and_true,Ta] at nd;obtain⟨⟨z1,z2,z3,z4⟩,⟨t1,t2,t3⟩,⟨w1,w2⟩,y1⟩:=nd;have S:=dU (prog:=X.prog) (w:=X.w) ka p a (aS p (by simp)) as.toArray;have T:=dU (prog:=X.prog) (w:=X.w) kb q b (aX q (by simp)) bs.toArray;have D:fP z TI TO p q [p,a] [q,b]:=⟨⟨QQ z1,t1,t2,t3⟩,z2,by simp [z3,QQ (aS z (by simp))],by simp [z4,QQ (aX z (by simp))],by simp [w1,QQ (aS TO (by simp))],by simp [w2,QQ (aX TO (by simp))],by simp [y1,QQ (aX p (by simp))],by simp [QQ y1,QQ (aS q (by simp))]⟩;refine gT S T D e1 e2 e3 ⟨e4,sa⟩ ⟨e5,sb⟩ (x:=u) (y:=v) (by simpa using hu) (by simpa using hv) λ h1 c1 c2 c3 c4 c5 c6 c7=>?_;refine⟨_,rfl,wpAny_letOwnedTupleGo_zip (s:={ s with heap:=h1 }) c1 λ h2 d1 d2=>?_⟩;have lt:z < s.heap.objs.size:=QH e1;have kp:∀ c o,c ∉ [z,TO,p,q]->s.heap.get? c=some o->h2.get? c=some o:=λ c o hc e=>d2.extBut _ _ (λ q=>hc (by simp [q])) (c7 c o hc e);have hn:h2.get? s.heap.objs.size=some { cls:=.type "tuple",data:=.seq #[u,v] }:=d2.extBut _ _ (RE lt) c5;have I2:Inv X pins σ (upd H s.heap.objs.size (.tup [xs[i],ys[i]])) { s with heap:=h2 }:=I.turnNew (t':=s.toks) (ch:=[z,TO,p,q]) (λ c hc=>hf c (by simp only [Q1,QR,Rm] at hc ⊢;rcases hc with h|h|h|h<;>simp [h])) kp (QK _) ⟨(show 2<=sizeLine by decide),[u,v],.cons ru (.cons rv .nil),⟨_,hn,rfl,_,rfl⟩⟩;have fr:H s.heap.objs.size=none:=I.hok.fresh (QK _);refine⟨.ref s.heap.objs.size,_,I2,rfl,⟨_,_,_,fr,rfl,hx,hy,rfl⟩,⟨d1,d2.extBut _ _ (QQ z1) (c7 TI _ (by simp [QQ z1,t1,t2,t3]) e2),⟨u,v,d2.extBut _ _ (QQ z2) c2⟩,c3.1.at λ o e=>d2.extBut _ _ (QQ z3) e,c4.1.at λ o e=>d2.extBut _ _ (QQ z4) e⟩,λ c hc=>?_⟩
  obtain⟨o,ho,_⟩:∃ o,s.heap.get? c=some o/\True:=by
   simp only [Q1,QR,Rm] at hc
   rcases hc with rfl|rfl|rfl|rfl|rfl
   ·exact⟨_,e1,trivial⟩
   ·exact⟨_,e2,trivial⟩
   ·exact⟨_,e3,trivial⟩
   ·obtain⟨o,_,e,_⟩:=e4.obj;exact⟨o,e,trivial⟩
   ·obtain⟨o,_,e,_⟩:=e5.obj;exact⟨o,e,trivial⟩
  rw [ah (QY (QH ho))];exact free c hc
 done:=by
  intro X hP hw hK hc i pins s σ H E I hf st hg;subst hP hw hK;obtain⟨e1,e2,⟨u0,v0,e3⟩,e4,e5⟩:=st;obtain⟨ha,hb,l⟩:=hg;obtain⟨as,ra,sa⟩:=I.sq ha;obtain⟨bs,rb,sb⟩:=I.sq hb;have free:∀ c∈[z,TI,TO,p,q],H c=none:=λ c h=>(hf c h).1;have aS:∀ c∈[z,TI,TO,p,q],a ≠ c:=λ c h=>ha.ne (free c h);have aX:∀ c∈[z,TI,TO,p,q],b ≠ c:=λ c h=>hb.ne (free c h);simp only [Sb,Q1,QR,Rm,Th,SO,and_true,Ta] at nd;obtain⟨⟨z1,z2,z3,z4⟩,⟨t1,t2,t3⟩,⟨w1,w2⟩,y1⟩:=nd;have S:=dU (prog:=X.prog) (w:=X.w) ka p a (aS p (by simp)) as.toArray;have T:=dU (prog:=X.prog) (w:=X.w) kb q b (aX q (by simp)) bs.toArray;have D:fP z TI TO p q [p,a] [q,b]:=⟨⟨QQ z1,t1,t2,t3⟩,z2,by simp [z3,QQ (aS z (by simp))],by simp [z4,QQ (aX z (by simp))],by simp [w1,QQ (aS TO (by simp))],by simp [w2,QQ (aX TO (by simp))],by simp [y1,QQ (aX p (by simp))],by simp [QQ y1,QQ (aS q (by simp))]⟩;have la:=ra.length;have lb:=rb.length;refine iV (I.ok.hd hc) S T D e1 e2 e3 ⟨e4,sa⟩ ⟨e5,sb⟩ (l.imp (λ h=>by simp;omega) λ h=>by simp;omega) λ h1 kp=>⟨rfl,I.turnL (t':=s.toks) (ch:=[z,TO,p,q]) (λ c hc=>hf c (by simp only [Q1,QR,Rm] at hc ⊢;rcases hc with h|h|h|h<;>simp [h])) kp⟩
 self:=λ _ _ _ _ _ st h=>TQ st.1 h
def kZ2(ka:Bool)(a b:Addr)(xs:List V)(H:Hp)(R:It->Hp->Prop):HO->Prop:=λ o=>match o with
 | .lst ys=>R (Itz ka false a b xs ys) H
 | .tup ys=>R (Itz ka true a b xs ys) H
 | _=>False
def Ii(ka:Bool)(a b:Addr)(xs ys:List V)(H:Hp)(R:It->Hp->Prop):kZ2 ka a b xs H R (.lst ys)=R (Itz ka false a b xs ys) H:=rfl
def Ih(ka:Bool)(a b:Addr)(xs ys:List V)(H:Hp)(R:It->Hp->Prop):kZ2 ka a b xs H R (.tup ys)=R (Itz ka true a b xs ys) H:=rfl
def kZ1(a b:Addr)(H:Hp)(R:It->Hp->Prop):HO->Prop:=λ o=>match o with
 | .lst xs=>aH (H b) (kZ2 false a b xs H R)
 | .tup xs=>aH (H b) (kZ2 true a b xs H R)
 | _=>False
def Ik(a b:Addr)(xs:List V)(H:Hp)(R:It->Hp->Prop):kZ1 a b H R (.lst xs)=aH (H b) (kZ2 false a b xs H R):=rfl
def Ij(a b:Addr)(xs:List V)(H:Hp)(R:It->Hp->Prop):kZ1 a b H R (.tup xs)=aH (H b) (kZ2 true a b xs H R):=rfl
def kZ0(R:It->Hp->Prop):List V->Hp->Prop:=λ vs H=>match vs with
 | [.ref a,.ref b]=>aH (H a) (kZ1 a b H R)
 | _=>False
def OF(R:It->Hp->Prop)(a b:Addr)(H:Hp):kZ0 R [.ref a,.ref b] H=aH (H a) (kZ1 a b H R):=rfl
def PZ(ta:TA):TI:=λ σ H R=>ta σ H (kZ0 R)
def Mw(ta:TA)(σ:St)(H:Hp)(R:It->Hp->Prop):PZ ta σ H R=ta σ H (kZ0 R):=rfl
def MI{R:It->Hp->Prop}{vs:List V}{H:Hp}(h:kZ0 R vs H):∃ a b ka kb xs ys,vs=[.ref a,.ref b]/\SqK ka H a xs/\SqK kb H b ys/\R (Itz ka kb a b xs ys) H:=by
 unfold kZ0 at h;split at h
 ·rename_i a b;obtain⟨o,e,h⟩:=ai h;unfold kZ1 at h;split at h
  ·rename_i xs;obtain⟨o',e',h⟩:=ai h;unfold kZ2 at h;split at h
   ·exact⟨a,b,false,false,xs,_,rfl,e,e',h⟩
   ·exact⟨a,b,false,true,xs,_,rfl,e,e',h⟩
   ·exact h.elim
  ·rename_i xs;obtain⟨o',e',h⟩:=ai h;unfold kZ2 at h;split at h
   ·exact⟨a,b,true,false,xs,_,rfl,e,e',h⟩
   ·exact⟨a,b,true,true,xs,_,rfl,e,e',h⟩
   ·exact h.elim
  ·exact h.elim
 ·exact h.elim
section
variable {X:Cx}
def K3{a b:Expr}{elts:List Expr}{x1}{tp:Pos}{ta:TA}{p pos:Pos}(hg:Gl X "zip")(hm:X.mg "zip"=none)(ha:PA X [a,b] ta)(hs:starEach [a,b] X.env=[(false,eval a X.env),(false,eval b X.env)]:=by rfl)(aS:starEach [b] X.env=[(false,eval b X.env)]:=by rfl) :
  PI X (.Tuple elts x1 tp) (.Call (.Name "zip" p) [a,b] [] pos) (PZ ta):=by
 intro pins s σ H R I h;refine Call_ (eV I hg hm (show bootBuiltins "zip"=some (.type "zip") by decide +kernel) (Rl (thn (ha pos pins s σ H _ I h) λ us s1 ⟨vs,H1,I1,r1,q1⟩=>?_) (by rw [hs,aS]) (by rw [aS];rfl)));obtain⟨a,b,ka,kb,xs,ys,rfl,sa,sb,q⟩:=MI q1
 cases r1 with
 | cons r rr=>
  cases rr with
  | cons r' rr=>
   cases rr;cases r;cases r';obtain⟨as,ra,aX⟩:=I1.sq sa;obtain⟨bs,rb,a3⟩:=I1.sq sb;refine zu aX a3 λ h' n hn e1 e2 e3 e4 e5 e6 e7=>?_;have I2:Inv X pins σ H1 { s1 with heap:=h' }:=I1.kept (t':=s1.toks) e7;refine TQ (s:={ s1 with heap:=h' }) e1 ⟨n+4,[n+4,n+2,n+3,n,n+1],_,_,H1,rfl,I2,CJ ka kb a b (n+4) (n+2) (n+3) n (n+1) xs ys (by simp),⟨e1,e2,⟨_,_,e3⟩,e4,e5⟩,λ c hc=>?_,q⟩
   have hle:s1.heap.objs.size<=c:=by
    rw [←hn];simp only [Q1,QR,Rm] at hc
    rcases hc with rfl|rfl|rfl|rfl|rfl
    ·exact RH ..
    ·exact RH ..
    ·exact RH ..
    ·exact QK _
    ·exact RH ..
   exact I1.fpOk hle (I1.hok.fresh hle)
end
def Nh(te:TE)(σ2:St)(N1:VK)(N0:Hp->Prop):Bool->Hp->Prop:=λ b H=>if b=true then te σ2 H N1 else N0 H
def aO(te:TE)(σ2:St)(N1:VK)(N0:Hp->Prop)(b:Bool)(H:Hp):Nh te σ2 N1 N0 b H=(if b=true then te σ2 H N1 else N0 H):=rfl
def kCm(k:Nat)(tt:TT)(te:TE)(σ:St)(N1:VK)(N0:Hp->Prop):St->Hp->Prop:=λ σ2 H=>(∃ vs:St,vs.length=k/\σ2=vs++σ)/\tt σ2 H (Nh te σ2 N1 N0)
def aV(tt:TT)(te:TE)(σ:St)(N1:VK)(N0:Hp->Prop)(a:Option V)(H:Hp):kCm 1 tt te σ N1 N0 (a::σ) H=tt (a::σ) H (Nh te (a::σ) N1 N0):=propext ⟨λ h=>h.2,λ h=>⟨⟨[a],rfl,rfl⟩,h⟩⟩
def dg(tt:TT)(te:TE)(σ:St)(N1:VK)(N0:Hp->Prop)(a b:Option V)(H:Hp):kCm 2 tt te σ N1 N0 (a::b::σ) H=tt (a::b::σ) H (Nh te (a::b::σ) N1 N0):=propext ⟨λ h=>h.2,λ h=>⟨⟨[a,b],rfl,rfl⟩,h⟩⟩
def HP(σ:St):List.replicate 1 (none:Option V)++σ=none::σ:=rfl
def HN(σ:St):List.replicate 2 (none:Option V)++σ=none::none::σ:=rfl
def Al{α:Type}(R:α->V->Prop)(zs:List α)(ys:List V):Prop:=ys.length=zs.length/\∀ (i:Nat) z y,zs[i]? = some z->ys[i]? = some y->R z y
def Al.nil{α:Type}{R:α->V->Prop}:Al R [] []:=⟨rfl,λ i z y h=>by simp at h⟩
def Al.snoc{α:Type}{R:α->V->Prop}{zs:List α}{ys:List V}{z:α}{y:V}(h:Al R zs ys)(r:R z y):Al R (zs++[z]) (ys++[y]):=by
 refine⟨by simp [h.1],λ i z' y' h1 h2=>?_⟩
 by_cases hi:i < zs.length
 ·rw [Rw hi] at h1;rw [Rw (by rw [h.1];exact hi)] at h2;exact h.2 i z' y' h1 h2
 ·rw [Rn (by omega)] at h1;rw [Rn (by rw [h.1];omega),h.1] at h2
  by_cases h0:i - zs.length=0
  ·rw [h0] at h1 h2;simp at h1 h2;subst h1;subst h2;exact r
  ·rw [R8 (by simp;omega)] at h1;cases h1
def Al.imp{α:Type}{R S:α->V->Prop}{zs:List α}{ys:List V}(h:Al R zs ys)(f:∀ z y,R z y->S z y):Al S zs ys:=⟨h.1,λ i z y a b=>f z y (h.2 i z y a b)⟩
def Al.map{α:Type}{f:α->V}{zs:List α}{ys:List V}(h:Al (λ z y=>y=f z) zs ys):ys=zs.map f:=by
 apply UO;intro i;rw [QL]
 by_cases hi:i < zs.length
 ·have e1:zs[i]? = some zs[i]:=QB hi;have e2:ys[i]? = some (ys[i]'(by rw [h.1];exact hi)):=QB _;rw [e1,e2,h.2 i _ _ e1 e2];rfl
 ·have:=h.1;rw [R8 (show ys.length<=i by omega),R8 (show zs.length<=i by omega)];rfl
section
variable {k:Nat}{g:TG}{tt:TT}{te:TE}{σ:St}{Q:VK}{H:Hp}{K:PySem.W.Frag}
def iJ{α:Type}{J:It}(zs:List α)(c:α->Bool)(P:α->V->Hp->Prop)(R:Addr->α->V->Hp->Prop)
  (a6:∀ i z H',zs[i]? = some z->Ext H H'->J.go i H'/\∀ x aS,J.yld i H' x aS->Ext H' aS/\P z x aS)
  (a7:∀ H',Ext H H'->J.stop zs.length H')
  (a4:∀ D z y H1 H2,R D z y H1->Ext H1 H2->R D z y H2) (a5:∀ D z y H1 o,R D z y H1->R D z y (upd H1 D o))
  (hl:zs.length<=sizeLine)
  (hs:∀ D z x H' N1 N0,z∈zs->H D=none->Ext H H'->(∃ ys,H' D=some (.lst ys))->P z x H'->(c z=true->∀ y aS,Ext H' aS->R D z y aS->N1 y aS)->(c z=false->∀ aS,Ext H' aS->N0 aS)->g x (List.replicate k none++σ) H' (kCm k tt te σ N1 N0))
  (hd:∀ D ys H',H D=none->Ext H H'->H' D=some (.lst ys)->Al (λ z y=>R D z y H') (zs.filter c) ys->Q (.ref D) H'):Cj k g tt te σ Q J H:=by
 intro D hD;refine⟨λ i m ys H'=>m=zs.length - i/\i<=zs.length/\Ext H H'/\H' D=some (.lst ys)/\Al (λ z y=>R D z y H') ((zs.take i).filter c) ys,⟨zs.length,by simp,RP _,Ext.new hD,ar,by simpa using Al.nil⟩,?_⟩;rintro i m ys H' ⟨rfl,hi,e,aX,al⟩
 by_cases hlt:i < zs.length
 ·have hz:zs[i]? = some zs[i]:=QB hlt;obtain⟨go,y⟩:=a6 i zs[i] H' hz e;have tk:zs.take (i+1)=zs.take i++[zs[i]]:=by rw [Us,hz];rfl
  have ln:ys.length < sizeLine:=by
   have h1:=al.1;have h2:=Tu c (zs.take i);simp only [Rf] at h2;omega
  refine .inr ⟨go,λ a3 H2=>Ext H H2/\H2 D=some (.lst a3)/\Al (λ z y=>R D z y H2) ((zs.take (i+1)).filter c) a3,λ a3 H2 p=>⟨zs.length - (i+1),by omega,rfl,hlt,p⟩,λ x H2 z=>?_⟩;obtain⟨e2,p2⟩:=y x H2 z;refine hs D zs[i] x H2 (kC3 D ys _) _ (Sd hlt) hD (e.trans e2) ⟨ys,e2.at aX⟩ p2 (λ hc y H3 e3 r3=>?_) λ hc H3 e3=>?_
  ·refine⟨e3.at (e2.at aX),ln,(e.trans (e2.trans e3)).put hD,ar,?_⟩;rw [tk,TU,show [zs[i]].filter c=[zs[i]] by simp [hc]];exact Al.snoc (al.imp λ z y r=>a5 _ _ _ _ _ (a4 _ _ _ _ _ r (e2.trans e3))) (a5 _ _ _ _ _ r3)
  ·refine⟨e.trans (e2.trans e3),(e2.trans e3).at aX,?_⟩;rw [tk,TU,show [zs[i]].filter c=[] by simp [hc],Tg];exact al.imp λ z y r=>a4 _ _ _ _ _ r (e2.trans e3)
 ·have e':i=zs.length:=by omega
  subst e';rw [Rz] at al;exact .inl ⟨a7 H' e,hd D ys H' hD e aX al⟩
def bc{α:Type}{J:It}(zs:List α)(c:α->Bool)(f:α->V)(P:α->V->Hp->Prop)
  (aX:∀ i z H',zs[i]? = some z->Ext H H'->J.go i H'/\∀ x aS,J.yld i H' x aS->Ext H' aS/\P z x aS)
  (a3:∀ H',Ext H H'->J.stop zs.length H') (hl:zs.length<=sizeLine)
  (hs:∀ D z x H' N1 N0,z∈zs->H D=none->Ext H H'->P z x H'->(c z=true->∀ aS,Ext H' aS->N1 (f z) aS)->(c z=false->∀ aS,Ext H' aS->N0 aS)->g x (List.replicate k none++σ) H' (kCm k tt te σ N1 N0))
  (hd:∀ D H',H D=none->Ext H H'->H' D=some (.lst ((zs.filter c).map f))->Q (.ref D) H'):Cj k g tt te σ Q J H:=
 iJ zs c P (λ _ z y _=>y=f z) aX a3 (λ _ _ _ _ _ r _=>r) (λ _ _ _ _ _ r=>r) hl (λ D z x H' N1 N0 hz hD e _ p k1 k0=>hs D z x H' N1 N0 hz hD e p (λ hc aS e'=>k1 hc _ aS e' rfl) k0) λ D ys H' hD e a4 al=>hd D H' hD e (by rw [←al.map];exact a4)
def fM{lo:Int}{n:Nat}:(∀ i z H',(List.range n)[i]? = some z->Ext H H'->(Itr lo n).go i H'/\∀ x aS,(Itr lo n).yld i H' x aS->Ext H' aS/\x=.int (lo+(z:Nat)))/\∀ H',Ext H H'->(Itr lo n).stop (List.range n).length H':=by
 refine⟨λ i z H' hz _=>?_,λ H' _=>by simp [Itr]⟩;obtain⟨h1,h2⟩:=QD.mp hz;have e:i=z:=by simpa using h2
 subst e;exact⟨(show i < n by simpa using h1),λ x aS y=>⟨by rw [y.1];exact Ext.refl _,y.2⟩⟩
def uz{a:Addr}{xs:List V}(h:H a=some (.lst xs)):(∀ i z H',xs[i]? = some z->Ext H H'->(Itl K a).go i H'/\∀ x aS,(Itl K a).yld i H' x aS->Ext H' aS/\(x=z/\aS a=some (.lst xs)))/\∀ H',Ext H H'->(Itl K a).stop xs.length H':=
 ⟨λ i z H' hz e=>⟨⟨xs,z,SqL.of (e.at h),hz⟩,λ x aS y=>⟨by rw [y.1];exact Ext.refl _,Q2 ((y.2 xs (SqL.of (e.at h))).symm.trans hz),by rw [y.1];exact e.at h⟩⟩,λ H' e=>⟨xs,SqL.of (e.at h),QK _⟩⟩
def SqK.ext{kk:Bool}{H H':Hp}{a:Addr}{xs:List V}(h:SqK kk H a xs)(e:Ext H H'):SqK kk H' a xs:=by
 cases kk
 ·exact e.at (show H a=some (.lst xs) from h)
 ·exact e.at (show H a=some (.tup xs) from h)
def E2(z:V × V)(x:V)(H:Hp):Prop:=∃ p,x=.ref p/\H p=some (.tup [z.1,z.2])
def jF{ka kb:Bool}{a b:Addr}{xs ys:List V}(ha:SqK ka H a xs)(hb:SqK kb H b ys):(∀ i z H',(xs.zip ys)[i]? = some z->Ext H H'->(Itz ka kb a b xs ys).go i H'/\∀ x aS,(Itz ka kb a b xs ys).yld i H' x aS->Ext H' aS/\E2 z x aS)/\∀ H',Ext H H'->(Itz ka kb a b xs ys).stop (xs.zip ys).length H':=by
 refine⟨λ i z H' hz e=>?_,λ H' e=>⟨ha.ext e,hb.ext e,?_⟩⟩
 ·obtain⟨h1,h2⟩:=QD.mp hz;rw [Sy] at h1;refine⟨⟨ha.ext e,hb.ext e,by omega,by omega⟩,λ x aS y=>?_⟩;obtain⟨p,u,v,hp,rfl,hu,hv,rfl⟩:=y;refine⟨Ext.new hp,p,rfl,?_⟩;rw [ar];rw [QB (by omega)] at hu hv;cases hu;cases hv;rw [←h2,List.getElem_zip]
 ·rw [Sy];omega
def ku{tb:TS}{nx:St->Hp->Prop}{rt:VK}{bk ct:St->Hp->Prop}{ka kb:Bool}{a b:Addr}{xs ys:List V}(Pv:Nat->St->Hp->Prop)(h0:Pv 0 σ H)(hl:∀ i σ H,Pv i σ H->SqK ka H a xs/\SqK kb H b ys)
  (hs:∀ i u v p σ H H',xs[i]? = some u->ys[i]? = some v->Pv i σ H->H p=none->Ext H H'->H' p=some (.tup [u,v])->g (.ref p) σ H' (sk tb ⟨Pv (i+1),rt,nx,Pv (i+1)⟩)) (hd:∀ σ H,Pv (min xs.length ys.length) σ H->nx σ H):FD g tb ⟨nx,rt,bk,ct⟩ σ (Itz ka kb a b xs ys) H:=by
 refine⟨λ i m σ H=>m=min xs.length ys.length - i/\i<=min xs.length ys.length/\Pv i σ H,⟨min xs.length ys.length,by simp,RP _,h0⟩,?_⟩;rintro i m σ H ⟨rfl,hi,p⟩;obtain⟨qa,qb⟩:=hl i σ H p
 by_cases hlt:i < min xs.length ys.length
 ·refine .inr ⟨⟨qa,qb,by omega,by omega⟩,Pv (i+1),λ σ' H' p'=>⟨min xs.length ys.length - (i+1),by omega,rfl,hlt,p'⟩,λ x H' y=>?_⟩;obtain⟨r,u,v,hr,rfl,hu,hv,rfl⟩:=y;exact hs i u v r σ H _ hu hv p hr (Ext.new hr) ar
 ·have e:i=min xs.length ys.length:=by omega
  subst e;exact .inl ⟨⟨qa,qb,by omega⟩,hd σ H p⟩
end
def KH(sc:Scope)(N:List Str)(scope:Scope)(N':List Str)(k:Nat):Bool:=
 scope.names.all (λ y=>!(y.2 == .cell)) && (scope.kind == .function) && scope.names.all (λ y=>!(y.2 == .local) || scope.names.lookup y.1 == some .local) && scope.names.all (λ y=>!(y.2 == .free) || sc.names.lookup y.1 == some .cell) && decide (N'.length=k+N.length) &&
  ((N'.drop k).zip N).all (λ p=>(!(scope.names.lookup p.1 == some .free) || decide (p.1=p.2)) && !(scope.names.lookup p.1 == some .local))
def aC{X:Cx}{scope:Scope}{N':List Str}{k:Nat}(sc:Scope)(N:List Str)(h1:X.env.scope=sc)(h2:X.N=N)(h:KH sc N scope N' k=true):kj X scope N' k:=by
 unfold KH at h;simp only [Bool.and_eq_true,decide_eq_true_eq] at h;obtain⟨⟨⟨⟨⟨a1,a2⟩,a3⟩,a4⟩,a5⟩,a6⟩:=h;rw [all_eq_true] at a1 a3 a4 a6
 have pr:∀ i x,N'[k+i]? = some x->∃ y,N[i]? = some y/\(x,y)∈(N'.drop k).zip N:=λ i x hx=>by
  have h0:=(QD.mp hx).1;have hi:i < N.length:=by omega
  have e1:(N'.drop k)[i]? = some x:=by rw [List.getElem?_drop];exact hx
  have e2:N[i]? = some N[i]:=QB hi;refine⟨_,e2,QV (i:=i) ?_⟩;rw [RB];exact⟨e1,e2⟩
 refine⟨λ y hy e=>?_,by simpa using a2,λ y hy e=>?_,λ y hy e=>?_,by rw [h2];exact a5,λ i x hx hf=>?_,λ i x hx hf=>?_⟩
 ·have:=a1 y hy;rw [e] at this;simp at this
 ·have:=a3 y hy;rw [e] at this;simpa using this
 ·have:=a4 y hy;rw [e] at this;rw [h1];simpa using this
 ·obtain⟨y,hy,hm⟩:=pr i x hx;have:=a6 _ hm;simp only [hf] at this;rw [h2,hy];simp at this;rw [this]
 ·obtain⟨y,hy,hm⟩:=pr i x hx;have:=a6 _ hm;simp [hf] at this
def Gv(H:Hp)(Q:VK):V->Prop:=λ v=>Q v H
def IB(H:Hp)(Q:VK)(v:V):Gv H Q v=Q v H:=rfl
def Ci(K:W.Frag)(f:Str)(H:Hp)(Q:VK):HO->Prop:=λ o=>match o with
 | .ins C dx fs=>Cls K C/\dt K C f/\aH (fs.lookup f) (Gv H Q)
 | _=>False
def IC(K:W.Frag)(f:Str)(H:Hp)(Q:VK)(C dx:Addr)(fs:List (Str × V)):Ci K f H Q (.ins C dx fs)=(Cls K C/\dt K C f/\aH (fs.lookup f) (Gv H Q)):=rfl
def J1(K:W.Frag)(f:Str)(Q:VK):VK:=λ x H=>match x with
 | .ref a=>aH (H a) (Ci K f H Q)
 | _=>False
def Me(K:W.Frag)(f:Str)(Q:VK)(a:Addr)(H:Hp):J1 K f Q (.ref a) H=aH (H a) (Ci K f H Q):=rfl
def NA(K:W.Frag)(ta:TE)(f:Str):TE:=λ σ H Q=>ta σ H (J1 K f Q)
def LS(K:W.Frag)(ta:TE)(f:Str)(σ:St)(H:Hp)(Q:VK):NA K ta f σ H Q=ta σ H (J1 K f Q):=rfl
def Jg{K:W.Frag}{f:Str}{Q:VK}{x:V}{H:Hp}(h:J1 K f Q x H):∃ a C dx fs v,x=.ref a/\H a=some (.ins C dx fs)/\Cls K C/\dt K C f/\fs.lookup f=some v/\Q v H:=by
 unfold J1 at h;split at h
 ·obtain⟨o,e,h⟩:=ai h;unfold Ci at h;split at h
  ·obtain⟨c,n,h⟩:=h;obtain⟨v,l,q⟩:=ai h;exact⟨_,_,_,_,v,rfl,e,c,n,l,q⟩
  ·exact h.elim
 ·exact h.elim
section
variable {X:Cx}{e o value:Expr}{ta tv:TE}{f:Str}{pos pos':Pos}
def yM(he:PE X e ta)(hb:attributeBase e f X.env (eval e X.env)=eval e X.env):PE X (.Attribute e f pos) (NA X.K ta f):=by
 intro pins s σ H Q I h;refine JI hb (thn (he pins s σ H _ I h) λ u s1 ⟨x,H1,I1,rx,q1⟩=>?_);obtain⟨a,C,dx,fs,v,ex,ea,c,n,l,q⟩:=Jg q1;subst ex;obtain rfl:u=Value.ref a:=rx;exact w4 I1 ea c n l λ u' s2 I2 ru=>⟨v,H1,I2,ru,q⟩
def Cd(K:W.Frag)(f:Str)(y:V)(a:Addr)(σ:St)(nx:St->Hp->Prop)(H:Hp):HO->Prop:=λ o=>match o with
 | .ins C dx fs=>Cls K C/\dt K C f/\fs.length < 1000/\nx σ (upd H a (.ins C dx (fU f y fs)))
 | _=>False
def Im(K:W.Frag)(f:Str)(y:V)(a:Addr)(σ:St)(nx:St->Hp->Prop)(H:Hp)(C dx:Addr)(fs:List (Str × V)):Cd K f y a σ nx H (.ins C dx fs)=(Cls K C/\dt K C f/\fs.length < 1000/\nx σ (upd H a (.ins C dx (fU f y fs)))):=rfl
def Ce(K:W.Frag)(f:Str)(y:V)(σ:St)(nx:St->Hp->Prop):VK:=λ x H=>match x with
 | .ref a=>aH (H a) (Cd K f y a σ nx H)
 | _=>False
def Ip(K:W.Frag)(f:Str)(y:V)(σ:St)(nx:St->Hp->Prop)(a:Addr)(H:Hp):Ce K f y σ nx (.ref a) H=aH (H a) (Cd K f y a σ nx H):=rfl
def Gp(K:W.Frag)(f:Str)(ta:TE)(σ:St)(nx:St->Hp->Prop):VK:=λ y H=>ta σ H (Ce K f y σ nx)
def Iq(K:W.Frag)(f:Str)(ta:TE)(σ:St)(nx:St->Hp->Prop)(y:V)(H:Hp):Gp K f ta σ nx y H=ta σ H (Ce K f y σ nx):=rfl
def Km(K:W.Frag)(ta tv:TE)(f:Str):TS:=λ D σ H=>tv σ H (Gp K f ta σ D.nx)
def HX(K:W.Frag)(ta tv:TE)(f:Str)(nx:St->Hp->Prop)(rt:VK)(bk ct:St->Hp->Prop)(σ:St)(H:Hp):Km K ta tv f ⟨nx,rt,bk,ct⟩ σ H=tv σ H (Gp K f ta σ nx):=rfl
def jX(ha:PE X o ta)(hv:PE X value tv)(hs:swapsWith value (some (.Attribute o f pos')) pos.line X.env=pure false):PS X (.Assign [.Attribute o f pos'] value pos) (Km X.K ta tv f):=by
 intro pins s σ H D I h;refine plainObj_wpAny_Assign_Attribute (thn (hv pins s σ H _ I h) λ u s1 ⟨y,H1,I1,ry,q⟩=>thn (ha pins s1 σ H1 _ I1 q) λ ov s2 ⟨x,H2,I2,rx,q1⟩=>?_) hs;unfold Ce at q1;split at q1
 ·rename_i a;obtain rfl:ov=Value.ref a:=rx;obtain⟨ob,ea,q1⟩:=ai q1;unfold Cd at q1;split at q1
  ·obtain⟨c,n,l,q2⟩:=q1;exact vY I2 ea c n l ry λ s3 I3=>⟨σ,_,I3,q2⟩
  ·exact q1.elim
 ·exact q1.elim
end
def p5(sp:Sp)(dvs:List V)(E:XK)(a:Addr)(Q:VK):List V->Hp->Prop:=λ vs H=>sp (.ref a::(vs++dvs)) H Q E
def wH(sp:Sp)(dvs:List V)(E:XK)(a:Addr)(Q:VK)(H:Hp):p5 sp dvs E a Q [] H=sp (.ref a::dvs) H Q E:=rfl
def wG(sp:Sp)(dvs:List V)(E:XK)(a:Addr)(Q:VK)(x:V)(H:Hp):p5 sp dvs E a Q [x] H=sp (.ref a::x::dvs) H Q E:=rfl
def wF(sp:Sp)(dvs:List V)(E:XK)(a:Addr)(Q:VK)(x y:V)(H:Hp):p5 sp dvs E a Q [x,y] H=sp (.ref a::x::y::dvs) H Q E:=rfl
def uE(C:Addr)(m:Str)(sp:Sp)(dvs:List V)(E:XK)(t:TA)(σ:St)(Q:VK)(a:Addr)(H:Hp):HO->Prop:=λ o=>match o with
 | .ins C' dx fs=>C'=C/\fs.lookup m=none/\t σ H (p5 sp dvs E a Q)
 | _=>False
def DJ(C:Addr)(m:Str)(sp:Sp)(dvs:List V)(E:XK)(t:TA)(σ:St)(Q:VK)(a:Addr)(H:Hp)(dx:Addr)(fs:List (Str × V)):uE C m sp dvs E t σ Q a H (.ins C dx fs)=(fs.lookup m=none/\t σ H (p5 sp dvs E a Q)):=propext ⟨λ h=>h.2,λ h=>⟨rfl,h⟩⟩
def xC(C:Addr)(m:Str)(sp:Sp)(dvs:List V)(E:XK)(t:TA)(σ:St)(Q:VK):VK:=λ x H=>match x with
 | .ref a=>aH (H a) (uE C m sp dvs E t σ Q a H)
 | _=>False
def Iz(C:Addr)(m:Str)(sp:Sp)(dvs:List V)(E:XK)(t:TA)(σ:St)(Q:VK)(a:Addr)(H:Hp):xC C m sp dvs E t σ Q (.ref a) H=aH (H a) (uE C m sp dvs E t σ Q a H):=rfl
def Gg(C:Addr)(m:Str)(sp:Sp)(dvs:List V)(E:XK)(ta:TE)(t:TA):TE:=λ σ H Q=>ta σ H (xC C m sp dvs E t σ Q)
def HZ(C:Addr)(m:Str)(sp:Sp)(dvs:List V)(E:XK)(ta:TE)(t:TA)(σ:St)(H:Hp)(Q:VK):Gg C m sp dvs E ta t σ H Q=ta σ H (xC C m sp dvs E t σ Q):=rfl
def u3{C:Addr}{m:Str}{sp:Sp}{dvs:List V}{E:XK}{t:TA}{σ:St}{Q:VK}{x:V}{H:Hp}(h:xC C m sp dvs E t σ Q x H):∃ a dx fs,x=.ref a/\H a=some (.ins C dx fs)/\fs.lookup m=none/\t σ H λ vs H2=>sp (x::(vs++dvs)) H2 Q E:=by
 unfold xC at h;split at h
 ·obtain⟨o,e,h⟩:=ai h;unfold uE at h;split at h
  ·obtain⟨rfl,l,h⟩:=h;exact⟨_,_,_,rfl,e,l,h⟩
  ·exact h.elim
 ·exact h.elim
section
variable {X:Cx}{CX:CXT}{k:Nat}{f C:Addr}{fd:FuncData}{ps:List Str}{sp:Sp}{dvs:List V}{ds:List Value}{E:XK}{x m:Str}{p pos apos:Pos}{e o:Expr}{es:List Expr}{ta:TE}{t:TA}
def Dk{pl:Sem Bool}(he:PE X o ta)(c:Cls X.K C)(hm:rZ X.K C m f)(F:bj X.prog X.w X.K X.mg X.base CX k f fd ps sp)(hr:jN k X.A)(hb:av X.K fd ps ds)(hd:aY dvs ds)(hx:kh CX X E)(ha:PA X (e::es) t)
  (aS:starEach (e::es) X.env=(false,eval e X.env)::starEach es X.env:=by rfl) (aX:(backTo pos (starEach es X.env)).any (·.1)=false:=by rfl)
  (ht:eval (.Call (.Attribute o m apos) (e::es) [] pos) X.env=(do
   let ov ←eval o X.env
   standAt apos.atName
   let (f,first) ←holding [ov] (getMethod ov m pl)
   callWith pos f first (backTo pos (starEach (e::es) X.env)) (backToKw pos (keywordEach [] X.env))):=by rfl) :
  PE X (.Call (.Attribute o m apos) (e::es) [] pos) (Gg C m sp dvs E ta t):=by
 intro pins s σ H Q I h;refine W.methodCall_KW (pl:=pl) (thn (he pins s σ H _ I h) λ u s1 ⟨x,H1,I1,rx,q0⟩=>?_) ht;obtain⟨a,dx,fs,ex,ea,l,q⟩:=u3 q0;subst ex;obtain rfl:u=Value.ref a:=rx;refine mX I1 ea c hm l ?_;refine W.callWith_K (first:=[.ref a]) (h₀:=X.base) I.ok.mod.kin hm.kp (thn (ha pos pins s1 σ H1 _ I1 q) λ us s2 ⟨vs,H2,I2,r,q2⟩=>⟨I2.kIn,?_⟩) aS aX;exact yb (us:=.ref a::us) (vs:=.ref a::vs) F hr hb hd hx I2 (.cons rfl r) q2
def An{pl:Sem Bool}(he:PE X o ta)(c:Cls X.K C)(hm:rZ X.K C m f)(F:bj X.prog X.w X.K X.mg X.base CX k f fd ps sp)(hr:jN k X.A)(hb:av X.K fd ps ds)(hd:aY dvs ds)(hx:kh CX X E)
  (ht:eval (.Call (.Attribute o m apos) [] [] pos) X.env=(do
   let ov ←eval o X.env
   standAt apos.atName
   let (f,first) ←holding [ov] (getMethod ov m pl)
   callWith pos f first (backTo pos (starEach [] X.env)) (backToKw pos (keywordEach [] X.env))):=by rfl) :
  PE X (.Call (.Attribute o m apos) [] [] pos) (Gg C m sp dvs E ta JU):=by
 intro pins s σ H Q I h;refine W.methodCall_KW (pl:=pl) (thn (he pins s σ H _ I h) λ u s1 ⟨x,H1,I1,rx,q0⟩=>?_) ht;obtain⟨a,dx,fs,ex,ea,l,q⟩:=u3 q0;subst ex;obtain rfl:u=Value.ref a:=rx;refine mX I1 ea c hm l ?_;exact W.callWith_K0 (first:=[.ref a]) I1.kIn hm.kp (yb (us:=[.ref a]) (vs:=[.ref a]) F hr hb hd hx I1 (.cons rfl .nil) q)
end
def Cf(x:Addr)(Q:VK):VK:=λ v H=>v=.non/\Q (.ref x) H
def IA(x:Addr)(Q:VK)(H:Hp):Cf x Q .non H=Q (.ref x) H:=propext ⟨λ h=>h.2,λ h=>⟨rfl,h⟩⟩
def vQ(C:Addr)(sp:Sp)(dvs:List V)(E:XK)(Q:VK):List V->Hp->Prop:=λ vs H=>∀ (x dx:Addr) (H':Hp),H x=none->H dx=none->dx ≠ x->Ext H H'->H' x=some (.ins C dx [])->H' dx=some (.own x)->sp (.ref x::(vs++dvs)) H' (Cf x Q) E
def AH(C:Addr)(sp:Sp)(dvs:List V)(E:XK)(Q:VK)(a:V)(H:Hp):vQ C sp dvs E Q [a] H=∀ (x dx:Addr) (H':Hp),H x=none->H dx=none->dx ≠ x->Ext H H'->H' x=some (.ins C dx [])->H' dx=some (.own x)->sp (.ref x::a::dvs) H' (Cf x Q) E:=rfl
def AG(C:Addr)(sp:Sp)(dvs:List V)(E:XK)(Q:VK)(a b c:V)(H:Hp):vQ C sp dvs E Q [a,b,c] H=∀ (x dx:Addr) (H':Hp),H x=none->H dx=none->dx ≠ x->Ext H H'->H' x=some (.ins C dx [])->H' dx=some (.own x)->sp (.ref x::a::b::c::dvs) H' (Cf x Q) E:=rfl
def Kn(C:Addr)(sp:Sp)(dvs:List V)(E:XK)(t:TA):TE:=λ σ H Q=>t σ H (vQ C sp dvs E Q)
def Ia(C:Addr)(sp:Sp)(dvs:List V)(E:XK)(t:TA)(σ:St)(H:Hp)(Q:VK):Kn C sp dvs E t σ H Q=t σ H (vQ C sp dvs E Q):=rfl
section
variable {X:Cx}{CX:CXT}{k:Nat}{f C:Addr}{fd:FuncData}{ps:List Str}{sp:Sp}{dvs:List V}{ds:List Value}{E:XK}{x m:Str}{p pos apos:Pos}{e o:Expr}{es:List Expr}{ta:TE}{t:TA}
def vQ.to{Q:VK}{vs:List V}{H:Hp}(h:vQ C sp dvs E Q vs H):∀ x dx,H x=none->H dx=none->dx ≠ x->sp (.ref x::(vs++dvs)) (upd (upd H dx (.own x)) x (.ins C dx [])) (λ v H2=>v=.non/\Q (.ref x) H2) E:=λ x dx hx hd ne=>
 h x dx _ hx hd ne ((Ext.new hd).put hx) ar (by rw [ah ne,ar])
def Dl(M:Mk X.K C f)(F:bj X.prog X.w X.K X.mg X.base CX k f fd ps sp)(hr:jN (k+1) X.A)(hg:Gl X x)(hm:X.mg x=some (.ref C))(hb:av X.K fd ps ds)(hd:aY dvs ds)(hx:kh CX X E)
  (ha:PA X (e::es) t) (aS:(x == ("__debug__":Str))=false:=by decide) (he:starEach (e::es) X.env=(false,eval e X.env)::starEach es X.env:=by rfl) (aX:(backTo pos (starEach es X.env)).any (·.1)=false:=by rfl) :
  PE X (.Call (.Name x p) (e::es) [] pos) (Kn C sp dvs E t):=by
 intro pins s σ H Q I h;refine Su (sT I hg hm ?_ aS);refine W.callWith_K (h₀:=X.base) I.ok.mod.kin M.kp (thn (ha pos pins s σ H _ I h) λ us s1 ⟨vs,H1,I1,r,q⟩=>⟨I1.kIn,?_⟩) he aX;exact CT M F hr hb hd hx I1 r q.to
end
def yQ:Expr->Bool
 | .Starred ..=>false
 | _=>true
def GZ{e:Expr}{es:List Expr}{env:Env}(h:yQ e=true):starEach (e::es) env=(false,eval e env)::starEach es env:=by
 cases e<;>first|rfl|cases h
def JX{X:Cx}{e:Expr}{es:List Expr}{te:TE}{t:TA}(ha:PE X e te)(hr:PA X es t)(hn:yQ e=true:=by rfl):PA X (e::es) (Cc te t):=Hv ha hr (GZ hn)
def bD(H:Hp)(z:List Int)(y:V):Prop:=∃ q,y=.ref q/\H q=some (.tup (z.map V.int))
def bD.ext{H H':Hp}{z:List Int}{y:V}(h:bD H z y)(e:Ext H H'):bD H' z y:=by
 obtain⟨q,rfl,hq⟩:=h;exact⟨q,rfl,e.at hq⟩
def bD.upd{H:Hp}{z:List Int}{y:V}{p:Addr}{xs:List V}{o:HO}(h:bD H z y)(hp:H p=some (.lst xs)):bD (upd H p o) z y:=by
 obtain⟨q,rfl,hq⟩:=h;exact⟨q,rfl,by rw [ah (λ z=>by rw [z,hp] at hq;cases hq)];exact hq⟩
def aP(H:Hp)(p:Addr)(zs:List (List Int)):Prop:=∃ ys,H p=some (.lst ys)/\Al (bD H) zs ys
def aP.ext{H H':Hp}{p:Addr}{zs:List (List Int)}(h:aP H p zs)(e:Ext H H'):aP H' p zs:=by
 obtain⟨ys,hp,al⟩:=h;exact⟨ys,e.at hp,al.imp λ _ _ r=>r.ext e⟩
def aj{n:Nat}(h:n<=5000):n<=sizeLine:=RT h (by decide)
def eU{n:Nat}(h:n < 5000):n < sizeLine:=Q0 h (by decide)
def NW(xs:List V)(H:Hp)(Q:VK):List V->Prop:=λ ys=>xs.length+ys.length<=sizeLine/\∀ (p:Addr) (H':Hp),Ext H H'->H' p=some (.tup (xs++ys))->Q (.ref p) H'
def xF(xs:List V)(H:Hp)(Q:VK)(ys:List V):NW xs H Q ys=(xs.length+ys.length<=sizeLine/\∀ (p:Addr) (H':Hp),Ext H H'->H' p=some (.tup (xs++ys))->Q (.ref p) H'):=rfl
def NX(b:Addr)(H:Hp)(Q:VK):List V->Prop:=λ xs=>aH (ke H b) (NW xs H Q)
def Mn(b:Addr)(H:Hp)(Q:VK)(xs:List V):NX b H Q xs=aH (ke H b) (NW xs H Q):=rfl
def Gi:R2:=λ x y H Q=>match x,y with
 | .ref l,.ref b=>aH (ke H l) (NX b H Q)
 | _,_=>False
def Ie(l b:Addr)(H:Hp)(Q:VK):Gi (.ref l) (.ref b) H Q=aH (ke H l) (NX b H Q):=rfl
def oK{X:Cx}:OpR X (binaryOp .Add) Gi:=by
 intro pins s σ H x y v u Q I rx ry h;unfold Gi at h;split at h
 ·rename_i l b;obtain⟨xs,e1,h⟩:=ai h;obtain⟨ys,e2,hz,k⟩:=ai h;have g1:=uA e1;have g2:=uA e2
  by_cases hx:xs=[]
  ·subst hx;cases rx;cases ry;obtain⟨its,r1,p1,_⟩:=I.tuple (SqT.of g1);obtain⟨aS,r2,p2,_⟩:=I.tuple (SqT.of g2);obtain⟨⟨cls,dd,data,sl⟩,ho,hc,n,hd⟩:=id p1;obtain⟨⟨a6,a4,data2,a5⟩,aX,a3,n2,hd2⟩:=id p2;simp only at hc hd a3 hd2;subst hc hd a3 hd2;cases r1
   exact concat_meets ⟨_,ho,rfl⟩ ⟨_,aX,rfl⟩ noFill_tuple_add seq_tuple_add Uh T6 (T4 _ _)
    (tuple_addW0 l b #[] aS.toArray n n2 dd a4 sl a5 (by simp)) ⟨ho,aX,show EP X pins σ Q (.ref b) s from ⟨.ref b,H,I,rfl,k b H (Ext.refl _) (by rw [List.nil_append];exact g2)⟩⟩
  ·refine HB pins s σ H (.ref l) (.ref b) v u Q I rx ry ⟨l,b,xs,ys,rfl,rfl,SqT.of g1,SqT.of g2,hx,hz,λ hy=>?_,λ hy p hp=>k p _ (Ext.new hp) ar⟩;subst hy;exact k l H (Ext.refl _) (by rw [Tg];exact g1)
 ·exact h.elim
def dE{K:W.Frag}{H:Hp}{α:Type}{R:α->V->Hp->Prop}(hR:∀ z y H H',R z y H->Ext H H'->R z y H'){l:Addr}{ys:List V}{zs:List α}(h:H l=some (.lst ys))(al:Al (λ z y=>R z y H) zs ys) :
  (∀ i z H',zs[i]? = some z->Ext H H'->(Itl K l).go i H'/\∀ x aS,(Itl K l).yld i H' x aS->Ext H' aS/\R z x aS)/\∀ H',Ext H H'->(Itl K l).stop zs.length H':=by
 refine⟨λ i z H' hz e=>?_,λ H' e=>⟨ys,SqL.of (e.at h),by rw [al.1];exact QK _⟩⟩;have hi:i < ys.length:=by rw [al.1];exact(QD.mp hz).1
 have hy:ys[i]? = some ys[i]:=QB hi;refine⟨⟨ys,ys[i],SqL.of (e.at h),hy⟩,λ x aS y=>?_⟩;have hx:x=ys[i]:=Q2 ((y.2 ys (SqL.of (e.at h))).symm.trans hy);refine⟨by rw [y.1];exact Ext.refl _,?_⟩;rw [hx,y.1];exact hR _ _ _ _ (al.2 i z _ hz hy) e
def axP(a:Int × Int)(x:V)(H:Hp):Prop:=∃ q,x=.ref q/\H q=some (.tup [.int a.1,.int a.2])
def axP.ext{a:Int × Int}{x:V}{H H':Hp}(h:axP a x H)(e:Ext H H'):axP a x H':=by
 obtain⟨q,rfl,hq⟩:=h;exact⟨q,rfl,e.at hq⟩
def jH{H:Hp}{axs:List (Int × Int)}{ys:List V}(al:Al (bD H) (axs.map λ a=>[a.1,a.2]) ys):Al (λ a y=>axP a y H) axs ys:=by
 refine⟨by rw [al.1,QE],λ i a y ha hy=>?_⟩;obtain⟨q,hq,h⟩:=al.2 i [a.1,a.2] y (by rw [QL,ha];rfl) hy;exact⟨q,hq,h⟩
abbrev gR(h:Heap)(z TI TO:Addr)(f0:Value)(f:Bool):Prop:=
 h.get? z=some { cls:=.type "zip",dict:=none,data:=.fields #[f0,.bool f,.bool false,.ref TI,.ref TO],slots:=#[] }
section
variable {prog:Program}{w:World}{A:Around}{E:Value->Shared->Prop}{s:Shared}
def E1{a:Addr}{o:Obj}{Q:Option Obj->Shared->Prop}(ho:s.heap.get? a=some o)(h:Q (some o) s):wpAny (model prog w) A (loadIfAlive a) Q E s:=by
 have h':Q (s.heap.get? a) s:=by rw [ho];exact h
 exact λ _ _ _=>h'
variable {z TI TO i j:Addr}{f g:List Addr}{ti tj:Nat->Heap->Prop}{vi vj:Nat->Option Value}{k m:Nat}{x y:Value}{t:Addr}{fl:Bool}{ot:Obj}
def p7{Q:Bool->Shared->Prop}(hz:gR s.heap z TI TO (rawInt t) fl)(ht:s.heap.get? t=some ot)
  (hQ:∀ h',gR h' z TI TO (rawInt t) true->Heap.SameBut z s.heap h'->Q false { s with heap:=h' }):wpAny (model prog w) A (Builtin.SmallTypes.ownedTupleIsFree (.ref z)) Q E s:=by
 unfold Builtin.SmallTypes.ownedTupleIsFree;refine wpAny_bind (wpAny_field hz rfl (x:=rawInt t) rfl ?_)
 show wpAny _ _ (loadIfAlive ((t:Int).toNat) >>= _) _ _ _
 rw [QO];refine My (E1 ht ?_);simp only [Option.isNone_some,Sf,Tq];refine My (Rk hz rfl (x:=.bool fl) rfl ?_)
 cases fl with
 | true=>
  rw [Q5 (show ¬ ((Value.bool true != Value.bool true)=true) from QS)];exact QI (hQ s.heap hz (Heap.SameBut.refl _ _))
 | false=>
  rw [Rc (show (Value.bool false != Value.bool true)=true from rfl)];exact My (Ru hz (by simp) λ h3 z3 s3=>QI (hQ h3 z3 s3))
def zQ(S:Src prog w i f ti vi)(T:Src prog w j g tj vj)(D:fP z TI TO i j f g){Q:Value->Shared->Prop}
  (hz:gR s.heap z TI TO (rawInt t) fl) (ht:s.heap.get? t=some ot) (aS:IsPair s.heap TI (.ref i) (.ref j)) (hi:ti k s.heap) (hj:tj m s.heap) (hx:vi k=some x) (hy:vj m=some y)
  (hQ:∀ h',gR h' z TI TO (rawInt t) true->ti (k+1) h'->tj (m+1) h'->IsPair h' s.heap.objs.size x y->h'.objs.size=s.heap.objs.size+1->(∀ c o,c ∉ [z,i,j]->s.heap.get? c=some o->h'.get? c=some o)->Q (.ref s.heap.objs.size) { s with heap:=h' }) :
  wpAny (model prog w) A (Builtin.«zip.__next__» ⟨[.ref z],[]⟩) (λ fin s'=>∃ v,fin=.done (.ret v)/\Q v s') E s:=by
 have iz:i ≠ z:=bg S.mem D.zf;have jz:j ≠ z:=bg T.mem D.zg;refine My (m:=field (.ref z) 2) (Rk hz rfl (x:=.bool false) rfl ?_);refine My (m:=field (.ref z) 3) (Rk hz rfl (x:=.ref TI) rfl (My (Rg aS rfl ?_)));refine My (m:=Builtin.SmallTypes.ownedTupleIsFree (.ref z)) (p7 hz ht λ q1 z1 s1=>?_);simp only [Sf,Tq];refine My ?_;simp only [List.forIn_toArray,TX,UA];refine My (My (R5 (My (m:=Builtin.SmallTypes.nextOf (.ref i)) (S.item _ k _ x _ _ (S.but hi s1.extBut D.zf) hx λ q2 i2 s2=>QI ?_))));have j2:tj m q2:=T.but (T.but hj s1.extBut D.zg) s2.extBut D.ig;refine QI ?_;refine My (My (R5 (My (m:=Builtin.SmallTypes.nextOf (.ref j)) (T.item _ m _ y _ _ j2 hy λ q3 j3 s3=>QI ?_))));refine QI (QI ?_);refine My (wpAny_newTuple (hsz:=(show 2<=sizeLine by decide)) ?_);have sz:q3.objs.size=s.heap.objs.size:=by rw [s3.1,s2.1,s1.1]
 have z3:gR q3 z TI TO (rawInt t) true:=s3.extBut _ _ jz.symm (s2.extBut _ _ iz.symm z1);have i3:ti (k+1) q3:=S.but i2 s3.extBut D.jf;refine QI ⟨_,rfl,?_⟩
 show Q (.ref q3.objs.size) _
 have n3:IsPair (q3.push { cls:=.type "tuple",data:=.seq #[x,y] }) q3.objs.size x y:=QN _ rfl;have n4:(q3.push { cls:=.type "tuple",data:=.seq #[x,y] }).objs.size=q3.objs.size+1:=Ri ..;rw [sz] at n3 n4;rw [sz];refine hQ _ (QC _ z3) (S.keep _ _ _ i3 λ c hc o e=>QC _ e) (T.keep _ _ _ j3 λ c hc o e=>QC _ e) n3 n4 λ c o hc e=>?_;simp only [Q1,QR,Rm,Th] at hc;exact QC _ (s3.extBut _ _ hc.2.2 (s2.extBut _ _ hc.2.1 (s1.extBut _ _ hc.1 e)))
def Cz(hh:A.handled=none)(S:Src prog w i f ti vi)(T:Src prog w j g tj vj)(D:fP z TI TO i j f g){Q:Fin->Shared->Prop}
  (hz:gR s.heap z TI TO (rawInt t) fl) (ht:s.heap.get? t=some ot) (aS:IsPair s.heap TI (.ref i) (.ref j)) (hi:ti k s.heap) (hj:tj m s.heap) (aX:vi k=none\/vj m=none)
  (hE:∀ h' e,(∀ c o,c ∉ [z,i,j]->s.heap.get? c=some o->h'.get? c=some o)->(∃ o,h'.get? e=some o/\o.cls=.type "StopIteration")->E (.ref e) { s with heap:=h' }) :
  wpAny (model prog w) A (Builtin.«zip.__next__» ⟨[.ref z],[]⟩) Q E s:=by
 refine My (m:=field (.ref z) 2) (Rk hz rfl (x:=.bool false) rfl ?_);refine My (m:=field (.ref z) 3) (Rk hz rfl (x:=.ref TI) rfl (My (Rg aS rfl ?_)));refine My (m:=Builtin.SmallTypes.ownedTupleIsFree (.ref z)) (p7 hz ht λ q1 z1 s1=>?_);simp only [Sf,Tq];refine My ?_;simp only [List.forIn_toArray,TX,UA];refine My (My (R5 (My (m:=Builtin.SmallTypes.nextOf (.ref i)) ?_)))
 cases hx:vi k with
 | none=>
  refine S.fin _ k _ _ _ hh (S.but hi s1.extBut D.zf) hx λ q2 e s2 he=>hE q2 e (λ c o hc q=>?_) he;simp only [Q1,QR,Rm,Th] at hc;exact s2 _ _ hc.2.1 (s1.extBut _ _ hc.1 q)
 | some x=>
  have hy:vj m=none:=aX.resolve_left (by rw [hx];exact TH x);refine S.item _ k _ x _ _ (S.but hi s1.extBut D.zf) hx λ q2 i2 s2=>QI (QI ?_);have j2:tj m q2:=T.but (T.but hj s1.extBut D.zg) s2.extBut D.ig;refine My (My (R5 (My (m:=Builtin.SmallTypes.nextOf (.ref j)) (T.fin _ m _ _ _ hh j2 hy λ q3 e s3 he=>hE q3 e (λ c o hc q=>?_) he))));simp only [Q1,QR,Rm,Th] at hc;exact s3 _ _ hc.2.2 (s2.extBut _ _ hc.2.1 (s1.extBut _ _ hc.1 q))
def md(S:Src prog w i f ti vi)(T:Src prog w j g tj vj)(D:fP z TI TO i j f g){Q:Option Value->Shared->Prop}
  (hz:gR s.heap z TI TO (rawInt t) fl) (ht:s.heap.get? t=some ot) (aS:IsPair s.heap TI (.ref i) (.ref j)) (hi:ti k s.heap) (hj:tj m s.heap) (hx:vi k=some x) (hy:vj m=some y)
  (hQ:∀ h',gR h' z TI TO (rawInt t) true->ti (k+1) h'->tj (m+1) h'->IsPair h' s.heap.objs.size x y->h'.objs.size=s.heap.objs.size+1->(∀ c o,c ∉ [z,i,j]->s.heap.get? c=some o->h'.get? c=some o)->Q (some (.ref s.heap.objs.size)) { s with heap:=h' }) :
  wpAny (model prog w) A (pyNext (.ref z)) Q E s:=by
 have ty:s.TypeIs (.ref z) "zip":=⟨_,hz,rfl⟩;unfold pyNext;exact wpAny_bind (wpAny_attempt (wpAny_callSpecial?_slot (name:=Str.ofString "__next__") ty F.slot_zip_next (wpAny_call_entry F.slot_zip_next ty F.entry_zip_next (zQ S T D hz ht aS hi hj hx hy λ h' c1 c2 c3 c4 c5 c6=>wpAny_pure (hQ h' c1 c2 c3 c4 c5 c6)) (F.args_zip_next_1 _))))
def oX(hh:A.handled=none)(S:Src prog w i f ti vi)(T:Src prog w j g tj vj)(D:fP z TI TO i j f g){Q:Option Value->Shared->Prop}
  (hz:gR s.heap z TI TO (rawInt t) fl) (ht:s.heap.get? t=some ot) (aS:IsPair s.heap TI (.ref i) (.ref j)) (hi:ti k s.heap) (hj:tj m s.heap) (aX:vi k=none\/vj m=none)
  (hQ:∀ h',(∀ c o,c ∉ [z,i,j]->s.heap.get? c=some o->h'.get? c=some o)->Q none { s with heap:=h' }):wpAny (model prog w) A (pyNext (.ref z)) Q E s:=by
 have ty:s.TypeIs (.ref z) "zip":=⟨_,hz,rfl⟩;unfold pyNext;refine wpAny_bind (wpAny_attempt (wpAny_callSpecial?_slot (name:=Str.ofString "__next__") ty F.slot_zip_next (wpAny_call_entry F.slot_zip_next ty F.entry_zip_next (Cz (show A.in1.handled=none from hh) S T D hz ht aS hi hj aX λ h' e kp he=>?_) (F.args_zip_next_1 _))));obtain⟨o,ho,hc⟩:=he;exact wpAny_bind (wpAny_isInstance (T := "StopIteration") (b:=true) ⟨o,ho,hc⟩ isSubtype_stop (wpAny_pure (hQ _ kp)))
def Zst(ka kb:Bool)(a b z TI TO p q:Addr)(as bs:Array Value)(n:Nat)(h:Heap):Prop:=
 (IsZip h z TI TO .none\/∃ (t:Addr) (fl:Bool) (ot:Obj),gR h z TI TO (rawInt t) fl/\h.get? t=some ot/\t ∉ [z,TI,TO,p,q])/\IsPair h TI (.ref p) (.ref q)/\(∃ u v,IsPair h TO u v)/\(bh h ka p a n/\SeqAt h ka a as)/\(bh h kb q b n/\SeqAt h kb b bs)
def Zst.keep{ka kb:Bool}{a b z TI TO p q:Addr}{as bs:Array Value}{n:Nat}{h h':Heap}(st:Zst ka kb a b z TI TO p q as bs n h)(k:∀ c o,h.get? c=some o->h'.get? c=some o):Zst ka kb a b z TI TO p q as bs n h':=by
 obtain⟨e0,e1,⟨u,v,e2⟩,⟨e3,e4⟩,e5,e6⟩:=st;refine⟨e0.imp (λ e=>k _ _ e) (λ ⟨t,fl,ot,x1,x2,x3⟩=>⟨t,fl,ot,k _ _ x1,k _ _ x2,x3⟩),k _ _ e1,⟨u,v,k _ _ e2⟩,⟨e3.at λ o e=>k _ o e,e4.at λ o e=>k _ o e⟩,e5.at λ o e=>k _ o e,e6.at λ o e=>k _ o e⟩
variable {ka kb:Bool}{a b p q:Addr}{as bs:Array Value}{n:Nat}
def Cv(nd:[z,TI,TO,p,q].Nodup)(na:a ∉ [z,TI,TO,p,q])(nb:b ∉ [z,TI,TO,p,q]){Q:Option Value->Shared->Prop}(st:Zst ka kb a b z TI TO p q as bs n s.heap)(hx:as[n]? = some x)(hy:bs[n]? = some y)
  (hQ:∀ h',Zst ka kb a b z TI TO p q as bs (n+1) h'->IsPair h' s.heap.objs.size x y->h'.objs.size=s.heap.objs.size+1->(∀ c o,c ∉ [z,TI,TO,p,q]->s.heap.get? c=some o->h'.get? c=some o)->Q (some (.ref s.heap.objs.size)) { s with heap:=h' }) :
  wpAny (model prog w) A (pyNext (.ref z)) Q E s:=by
 obtain⟨e0,e1,⟨u,v,e2⟩,e3,e4⟩:=st;simp only [Sb,Q1,QR,Rm,Th,SO,and_true,Ta] at nd na nb;obtain⟨⟨z1,z2,z3,z4⟩,⟨t1,t2,t3⟩,⟨w1,w2⟩,y1⟩:=nd;obtain⟨a1,a2,a3,a4,a5⟩:=na;obtain⟨b1,b2,b3,b4,b5⟩:=nb;have S:=dU (prog:=prog) (w:=w) ka p a a4 as;have T:=dU (prog:=prog) (w:=w) kb q b b5 bs;have D:fP z TI TO p q [p,a] [q,b]:=⟨⟨QQ z1,t1,t2,t3⟩,z2,by simp [z3,QQ a1],by simp [z4,QQ b1],by simp [w1,QQ a3],by simp [w2,QQ b3],by simp [y1,QQ b4],by simp [QQ y1,QQ a5]⟩
 have zl:z < s.heap.objs.size/\TI < s.heap.objs.size/\TO < s.heap.objs.size/\p < s.heap.objs.size/\q < s.heap.objs.size:=by
  refine⟨?_,QH e1,QH e2,?_,?_⟩
  ·rcases e0 with e|⟨_,_,_,e,_⟩<;>exact QH e
  ·obtain⟨o,_,e,_⟩:=e3.1.obj;exact QH e
  ·obtain⟨o,_,e,_⟩:=e4.1.obj;exact QH e
 have nw:s.heap.objs.size ∉ [z,TI,TO,p,q]:=by
  simp only [Q1,QR,Rm,Th];exact⟨RE zl.1,RE zl.2.1,RE zl.2.2.1,RE zl.2.2.2.1,RE zl.2.2.2.2⟩
 rcases e0 with e0|⟨t,fl,ot,e0,et,nt⟩
 ·refine gT S T D e0 e1 e2 e3 e4 hx hy λ h1 c1 c2 c3 c4 c5 c6 c7=>hQ h1 ⟨.inr ⟨_,false,_,c1,c5,nw⟩,c7 TI _ (by simp [QQ z1,t1,t2,t3]) e1,⟨_,_,c2⟩,c3,c4⟩ c5 c6 λ c o hc e=>c7 c o (λ z=>hc ?_) e;simp only [Q1,QR,Rm] at z ⊢
  rcases z with h|h|h|h<;>simp [h]
 ·refine md S T D e0 et e1 e3 e4 hx hy λ h1 c1 c3 c4 c5 c6 c7=>hQ h1 ⟨.inr ⟨_,true,_,c1,c7 t _ (λ z=>nt ?_) et,nt⟩,c7 TI _ (by simp [QQ z1,t2,t3]) e1,⟨_,_,c7 TO _ (by simp [QQ z2,w1,w2]) e2⟩,c3,c4⟩ c5 c6 λ c o hc e=>c7 c o (λ z=>hc ?_) e
  all_goals
   simp only [Q1,QR,Rm] at z ⊢
   rcases z with h|h|h<;>simp [h]
def GC(hh:A.handled=none)(nd:[z,TI,TO,p,q].Nodup)(na:a ∉ [z,TI,TO,p,q])(nb:b ∉ [z,TI,TO,p,q]){Q:Option Value->Shared->Prop}(st:Zst ka kb a b z TI TO p q as bs n s.heap)(aS:as[n]? = none\/bs[n]? = none)
  (hQ:∀ h',(∀ c o,c ∉ [z,TI,TO,p,q]->s.heap.get? c=some o->h'.get? c=some o)->Q none { s with heap:=h' }) :
  wpAny (model prog w) A (pyNext (.ref z)) Q E s:=by
 obtain⟨e0,e1,⟨u,v,e2⟩,e3,e4⟩:=st;simp only [Sb,Q1,QR,Rm,Th,SO,and_true,Ta] at nd na nb;obtain⟨⟨z1,z2,z3,z4⟩,⟨t1,t2,t3⟩,⟨w1,w2⟩,y1⟩:=nd;obtain⟨a1,a2,a3,a4,a5⟩:=na;obtain⟨b1,b2,b3,b4,b5⟩:=nb;have S:=dU (prog:=prog) (w:=w) ka p a a4 as;have T:=dU (prog:=prog) (w:=w) kb q b b5 bs;have D:fP z TI TO p q [p,a] [q,b]:=⟨⟨QQ z1,t1,t2,t3⟩,z2,by simp [z3,QQ a1],by simp [z4,QQ b1],by simp [w1,QQ a3],by simp [w2,QQ b3],by simp [y1,QQ b4],by simp [QQ y1,QQ a5]⟩
 rcases e0 with e0|⟨t,fl,ot,e0,et,nt⟩
 ·refine iV hh S T D e0 e1 e2 e3 e4 aS λ h1 kp=>hQ h1 λ c o hc e=>kp c o (λ z=>hc ?_) e;simp only [Q1,QR,Rm] at z ⊢
  rcases z with h|h|h|h<;>simp [h]
 ·refine oX hh S T D e0 et e1 e3 e4 aS λ h1 kp=>hQ h1 λ c o hc e=>kp c o (λ z=>hc ?_) e;simp only [Q1,QR,Rm] at z ⊢
  rcases z with h|h|h<;>simp [h]
structure Got(h:Heap)(lo:Nat)(as bs:Array Value)(ts:List Addr):Prop where
 nd:ts.Nodup
 lo:∀ t∈ts,lo<=t
 get:∀ (m:Nat) t,ts[m]? = some t->∃ x y,as[m]? = some x/\bs[m]? = some y/\IsPair h t x y
def Got.lt{h:Heap}{lo:Nat}{as bs:Array Value}{ts:List Addr}(G:Got h lo as bs ts):∀ t∈ts,t < h.objs.size:=λ t ht=>by
 obtain⟨m,hm,rfl⟩:=SH ht;obtain⟨x,y,_,_,e⟩:=G.get m _ (QB hm);exact QH e
def Cw{R:Result->Shared->Prop}(hh:A.handled=none)(nd:[z,TI,TO,p,q].Nodup)(na:a ∉ [z,TI,TO,p,q])(nb:b ∉ [z,TI,TO,p,q])(S lo:Addr)(hS:S ∉ [z,TI,TO,p,q])(aS:a ≠ S)(bS:b ≠ S)(a9:∀ c∈[z,TI,TO,p,q],lo<=c)(bt:lo<=S)(hsz:min as.size bs.size<=sizeLine) :
  ∀ (k n:Nat) (s:Shared) (ts:List Addr) (c:Nat),min as.size bs.size - n=k->n<=min as.size bs.size->Zst ka kb a b z TI TO p q as bs n s.heap->s.heap.get? S=some { cls:=.type "list",dict:=none,data:=.seq (ts.map Value.ref).toArray c,slots:=#[] }->ts.length=n->Got s.heap lo as bs ts->S ∉ ts->(∀ t∈ts,t ∉ [z,TI,TO,p,q])->lo<=s.heap.objs.size →
  (∀ h' a3 c',h'.get? S=some { cls:=.type "list",dict:=none,data:=.seq (a3.map Value.ref).toArray c',slots:=#[] }->a3.length=min as.size bs.size->Got h' lo as bs a3->S ∉ a3->(∀ d o,d < lo->s.heap.get? d=some o->h'.get? d=some o)->R (.ok (.ret .none)) { s with heap:=h' }) →
  codeAny (model prog w) A (.builtin "list.extend.loop" ⟨[.ref S,.ref z,.none],[]⟩) R s:=by
 intro k
 induction k with
 | zero=>
  intro n s ts c hk hn st hL hl G a4 a5 a7 hR;refine Sz PySem.F.entry_extend_loop ?_;rw [R6 SX _]
  show wpAny _ A.in1 (pyNext (.ref z) >>= _) _ _ s
  refine My (GC (show A.in1.handled=none from hh) nd na nb st ?_ λ h' kp=>?_)
  ·by_cases h1:as.size<=n
   ·exact .inl (Array.getElem?_eq_none h1)
   ·exact .inr (Array.getElem?_eq_none (by omega))
  ·exact QI (hR h' ts c (kp _ _ hS hL) (by omega) ⟨G.nd,G.lo,λ m t ht=>by
    obtain⟨x,y,e1,e2,e3⟩:=G.get m t ht;exact⟨x,y,e1,e2,kp _ _ (a5 t (QV ht)) e3⟩⟩ a4 λ d o hd e=>kp d o (λ z=>absurd (a9 d z) (Nat.not_le.mpr hd)) e)
 | succ k ih=>
  intro n s ts c hk hn st hL hl G a4 a5 a7 hR;have h1:n < as.size:=by omega
  have h2:n < bs.size:=by omega
  refine Sz PySem.F.entry_extend_loop ?_;rw [R6 SX _]
  show wpAny _ A.in1 (pyNext (.ref z) >>= _) _ _ s
  refine My (Cv nd na nb st (SY h1) (SY h2) λ h' b1 pr sz kp=>?_);have a8:=kp _ _ hS hL
  show wpAny _ A.in1 (updateSeq S (·.push (.ref s.heap.objs.size)) >>= _) _ _ _
  refine My ?_;have Sn:S ≠ s.heap.objs.size:=QY (QH hL);have aX:∀ d o,d ≠ S->h'.get? d=some o->(h'.update S (Obj.mapSeq (·.push (.ref s.heap.objs.size)))).get? d=some o:=λ d o hd e=>(Q9 _ _ (QQ hd)).trans e
  have G':Got (h'.update S (Obj.mapSeq (·.push (.ref s.heap.objs.size)))) lo as bs (ts++[s.heap.objs.size]):=by
   refine⟨?_,λ t ht=>?_,λ m t ht=>?_⟩
   ·rw [RL];refine⟨G.nd,by simp,λ x hx y hy=>?_⟩;rw [QF.mp hy];exact QY (G.lt x hx)
   ·rcases Q6.mp ht with ht|ht
    ·exact G.lo t ht
    ·rw [QF.mp ht];exact a7
   ·by_cases hm:m < ts.length
    ·rw [Rw hm] at ht;obtain⟨x,y,e1,e2,e3⟩:=G.get m t ht;have a6:=QV ht;exact⟨x,y,e1,e2,aX _ _ (λ z=>a4 (z ▸ a6)) (kp _ _ (a5 t a6) e3)⟩
    ·rw [Rn (by omega)] at ht
     have h0:m - ts.length=0:=by
      rcases Nat.eq_zero_or_pos (m - ts.length) with h|h
      ·exact h
      ·rw [R8 (by simp;omega)] at ht;cases ht
     rw [h0] at ht;simp at ht;subst ht;have b2:m=n:=by omega
     subst b2;exact⟨_,_,SY h1,SY h2,aX _ _ (QQ Sn) pr⟩
  have nw:s.heap.objs.size ∉ [z,TI,TO,p,q]:=by
   obtain⟨e0,e1,⟨u,v,e2⟩,e3,e4⟩:=st;simp only [Q1,QR,Rm,Th];refine⟨?_,RE (QH e1),RE (QH e2),?_,?_⟩
   ·rcases e0 with e|⟨_,_,_,e,_⟩<;>exact RE (QH e)
   ·obtain⟨o,_,e,_⟩:=e3.1.obj;exact RE (QH e)
   ·obtain⟨o,_,e,_⟩:=e4.1.obj;exact RE (QH e)
  have stK:Zst ka kb a b z TI TO p q as bs (n+1) (h'.update S (Obj.mapSeq (·.push (.ref s.heap.objs.size)))):=by
   obtain⟨e0,e1,⟨u,v,e2⟩,⟨e3,e4⟩,e5,e6⟩:=b1;simp only [Q1,QR,Rm,Th] at hS;obtain⟨n1,n2,n3,n4,n5⟩:=hS;refine⟨e0.imp (λ e=>aX _ _ (QQ n1) e) (λ ⟨t,fl,ot,x1,x2,x3⟩=>?_),aX _ _ (QQ n2) e1,⟨u,v,aX _ _ (QQ n3) e2⟩,⟨e3.at λ o e=>aX _ o (QQ n4) e,e4.at λ o e=>aX _ o aS e⟩,e5.at λ o e=>aX _ o (QQ n5) e,e6.at λ o e=>aX _ o bS e⟩
   by_cases htS:t=S
   ·subst htS;exact⟨t,fl,_,aX _ _ (QQ n1) x1,Rt _ a8 rfl,x3⟩
   ·exact⟨t,fl,ot,aX _ _ (QQ n1) x1,aX _ _ htS x2,x3⟩
  have b3:(h'.update S (Obj.mapSeq (·.push (Value.ref s.heap.objs.size)))).get? S=some { cls:=.type "list",dict:=none,data:=.seq ((ts++[s.heap.objs.size]).map Value.ref).toArray (c+1),slots:=#[] }:=by
   rw [Rt (Obj.mapSeq (·.push (Value.ref s.heap.objs.size))) a8 rfl];simp [Obj.mapSeq]
  refine R4 a8 rfl (QI ⟨Sv SX _,ih (n+1) _ (ts++[s.heap.objs.size]) _ (by omega) (by omega) stK b3 (by simp [hl]) G' ?_ ?_ ?_ λ h3 b4 c3 r1 r2 r3 r4 r5=>hR h3 b4 c3 r1 r2 r3 r4 λ d o hd e=>r5 d o hd ?_⟩) ?_ ?_
  ·intro hm
   rcases Q6.mp hm with hm|hm
   ·exact a4 hm
   ·exact Sn (QF.mp hm)
  ·intro t ht
   rcases Q6.mp ht with ht|ht
   ·exact a5 t ht
   ·rw [QF.mp ht];exact nw
  ·show lo<=(h'.update S _).objs.size
   rw [Uu,sz];exact RT a7 (SI _)
  ·exact aX _ _ (QY (Q0 hd bt)) (kp d o (λ z=>absurd (a9 d z) (Nat.not_le.mpr hd)) e)
  ·simp;omega
  ·simp;omega
def vT:typeLookup (.type "zip") "__len__"=pure none:=by rw [typeLookup_type,builtinLookup_eq_fast];kernel_rfl
def sY:typeLookup (.type "zip") "__length_hint__"=pure none:=by rw [typeLookup_type,builtinLookup_eq_fast];kernel_rfl
def Zst.ty(st:Zst ka kb a b z TI TO p q as bs n s.heap):s.TypeIs (.ref z) "zip":=by
 rcases st.1 with e|⟨_,_,_,e,_⟩
 ·exact⟨_,e,rfl⟩
 ·exact⟨_,e,rfl⟩
def Zst.but{h h':Heap}{S:Addr}(st:Zst ka kb a b z TI TO p q as bs 0 h)(e0:IsZip h z TI TO .none)(hS:S ∉ [z,TI,TO,p,q])(aS:a ≠ S)(bS:b ≠ S)(k:∀ c o,c ≠ S->h.get? c=some o->h'.get? c=some o):Zst ka kb a b z TI TO p q as bs 0 h':=by
 obtain⟨_,e1,⟨u,v,e2⟩,⟨e3,e4⟩,e5,e6⟩:=st;simp only [Q1,QR,Rm,Th] at hS;obtain⟨n1,n2,n3,n4,n5⟩:=hS;exact⟨.inl (k _ _ (QQ n1) e0),k _ _ (QQ n2) e1,⟨u,v,k _ _ (QQ n3) e2⟩,⟨e3.at λ o e=>k _ o (QQ n4) e,e4.at λ o e=>k _ o aS e⟩,e5.at λ o e=>k _ o (QQ n5) e,e6.at λ o e=>k _ o bS e⟩
def pK{Q:Value->Shared->Prop}(hh:A.handled=none)(nd:[z,TI,TO,p,q].Nodup)(na:a ∉ [z,TI,TO,p,q])(nb:b ∉ [z,TI,TO,p,q])(lo:Addr)(a6:∀ c∈[z,TI,TO,p,q],lo<=c)(hsz:min as.size bs.size<=sizeLine)
  (e0:IsZip s.heap z TI TO .none) (st:Zst ka kb a b z TI TO p q as bs 0 s.heap)
  (hQ:∀ h' aS c',h'.get? s.heap.objs.size=some { cls:=.type "list",dict:=none,data:=.seq (aS.map Value.ref).toArray c',slots:=#[] }->aS.length=min as.size bs.size->Got h' lo as bs aS->s.heap.objs.size ∉ aS->(∀ d o,d < lo->s.heap.get? d=some o->h'.get? d=some o)->Q (.ref s.heap.objs.size) { s with heap:=h' }) :
  wpAny (model prog w) A (call (.type "list") [.ref z]) Q E s:=by
 have zl:∀ c∈[z,TI,TO,p,q],c < s.heap.objs.size:=by
  obtain⟨_,e1,⟨u,v,e2⟩,⟨e3,e4⟩,e5,e6⟩:=st;intro c hc;simp only [Q1,QR,Rm] at hc
  rcases hc with rfl|rfl|rfl|rfl|rfl
  ·exact QH e0
  ·exact QH e1
  ·exact QH e2
  ·obtain⟨o,_,e,_⟩:=e3.obj;exact QH e
  ·obtain⟨o,_,e,_⟩:=e5.obj;exact QH e
 have aX:s.heap.objs.size ∉ [z,TI,TO,p,q]:=λ hm=>Ry _ (zl _ hm);have bS:s.heap.objs.size ≠ z:=λ e=>aX (by simp [e]);have al:a < s.heap.objs.size:=by obtain⟨o,_,e,_⟩:=st.2.2.2.1.2.obj;exact QH e
 have bl:b < s.heap.objs.size:=by obtain⟨o,_,e,_⟩:=st.2.2.2.2.2.obj;exact QH e
 have a7:lo<=s.heap.objs.size:=Tt (Nat.lt_of_le_of_lt (a6 z (by simp)) (zl z (by simp)))
 refine callType_codes (Q₁:=λ obj s₁=>obj=.ref s.heap.objs.size/\s₁={ s with heap:=s.heap.push { cls:=.type "list",data:=.seq #[] } }) PySem.F.called_list (PySem.F.typeCall_list_1 _) PySem.F.entry_list_init
  (code_list_new _ ⟨rfl,rfl⟩) λ obj s₁ h₁=>?_
 obtain⟨rfl,rfl⟩:=h₁;have hS:(s.heap.push { cls:=.type "list",data:=.seq #[] }).get? s.heap.objs.size=some { cls:=.type "list",data:=.seq #[] }:=QN _ rfl;refine⟨⟨_,hS,rfl⟩,PySem.F.args_list_init_2 _ _,?_⟩
 show wpAny _ A.in1.in1 (do let old ←Builtin.List.listItems (.ref s.heap.objs.size);Builtin.List.listUpdate (.ref s.heap.objs.size) (λ _=>#[]);letGo old.toList.reverse;Builtin.List.listExtendWith (.ref s.heap.objs.size) (.ref z) .none) _ _ _
 refine wpAny_bind ?_;unfold Builtin.List.listItems;refine wpAny_bind (wpAny_seqItems hS rfl (wpAny_pure ?_))
 show wpAny _ A.in1.in1 (updateSeq s.heap.objs.size (λ _=>#[]) >>= λ _=>letGo (#[]:Array Value).toList.reverse >>= λ _=>Builtin.List.listExtendWith (.ref s.heap.objs.size) (.ref z) .none) _ _ _
 refine My (R4 hS rfl ?_);have a3:=Rt (Obj.mapSeq (λ _=>(#[]:Array Value))) hS rfl;refine My (RY ?_);have k1:∀ c o,s.heap.get? c=some o->((s.heap.push { cls:=.type "list",data:=.seq #[] }).update s.heap.objs.size (Obj.mapSeq (λ _=>(#[]:Array Value)))).get? c=some o:=λ c o e=>(Q9 _ _ (RE (QH e))).trans (QC _ e);have a4:=st.keep k1;have e1:=k1 _ _ e0;have a8:((s.heap.push { cls:=.type "list",data:=.seq #[] }).update s.heap.objs.size (Obj.mapSeq (λ _=>(#[]:Array Value)))).objs.size=s.heap.objs.size+1:=by rw [Uu,Ri]
 generalize (s.heap.push { cls:=.type "list",data:=.seq #[] }).update s.heap.objs.size (Obj.mapSeq (λ _=>(#[]:Array Value)))=hp at a3 k1 a4 e1 a8;unfold Builtin.List.listExtendWith;have a5:Shared.TypeIs { s with heap:=hp } (.ref z) "zip":=Zst.ty (s:={ s with heap:=hp }) a4;refine wpAny_bind (wpAny_typeOf a5 ?_);have h1:Builtin.List.listSameRef (.ref s.heap.objs.size) (.ref z)=false:=by simp [Builtin.List.listSameRef,bS]
 have h2:(Value.type "zip" == Value.type "list")=false:=by decide
 have h3:(Value.type "zip" == Value.type "tuple")=false:=by decide
 simp only [h1,h2,h3,Bool.or_false,Bool.false_eq_true,if_false];refine wpAny_bind (wpAny_pyIter_zip e1 ?_);refine wpAny_bind (wpAny_holding ?_);unfold Builtin.List.listLengthHint;refine wpAny_bind (wpAny_specialOf a5 vT ?_)
 show wpAny _ A.in1.in1 (specialOf (Value.ref z) (Str.ofString "__length_hint__") >>= _) _ _ _
 refine My (wpAny_specialOf a5 sY ?_);refine QI ?_
 show wpAny _ A.in1.in1 (rule "list.extend.makes-room" >>= λ _=>Builtin.List.listTouch (.ref s.heap.objs.size) >>= λ _=>
  again (.builtin "list.extend.loop" ⟨[.ref s.heap.objs.size,.ref z,.none],[]⟩)) _ _ _
 refine My (T1 ?_);refine My ?_
 show wpAny _ A.in1.in1 (updateSeq s.heap.objs.size (·.push .none) >>= λ _=>updateSeq s.heap.objs.size (·.pop)) _ _ _
 refine My (R4 a3 rfl ?_);have a9:=Rt (Obj.mapSeq (·.push Value.none)) a3 rfl;refine R4 (hz:=by seq_fits) a9 rfl ?_;have b1:=Rt (Obj.mapSeq (·.pop)) a9 rfl
 have bt:∀ c o,c ≠ s.heap.objs.size->hp.get? c=some o->((hp.update s.heap.objs.size (Obj.mapSeq (·.push Value.none))).update s.heap.objs.size (Obj.mapSeq (·.pop))).get? c=some o:=
  λ c o hc e=>(Q9 _ _ (QQ hc)).trans ((Q9 _ _ (QQ hc)).trans e)
 have b2:=a4.but e1 aX (QY al) (QY bl) bt;refine QI ⟨Sv SX _,Cw (A:=A.in1) hh nd na nb s.heap.objs.size lo aX (QY al) (QY bl) a6 a7 hsz _ 0 _ [] _ rfl (RP _) b2 (by exact b1) rfl ⟨Ta,λ t h=>absurd h QR,λ m t h=>by simp at h⟩ (by simp) (λ t h=>absurd h QR) ?_ λ h' aS c' r1 r2 r3 r4 r5=>?_⟩
 ·show lo<=((hp.update _ _).update _ _).objs.size
  rw [Uu,Uu,a8];exact RT a7 (SI _)
 ·refine⟨rfl,hQ h' aS c' r1 r2 r3 r4 λ d o hd e=>r5 d o hd (bt d o (QY (QH e)) (k1 d o e))⟩
end
section
variable {X:Cx}{pins:List (Addr × Obj)}{σ:St}{s:Shared}
def Inv.adoptAll:∀ (ts:List Addr) (zs:List (V × V)){H:Hp},Inv X pins σ H s->ts.length=zs.length->ts.Nodup->(∀ t∈ts,Cr X pins t/\H t=none)->(∀ (m:Nat) t z,ts[m]? = some t->zs[m]? = some z->∃ u v,bF z.1 u/\bF z.2 v/\IsPair s.heap t u v) →
  ∃ H',Inv X pins σ H' s/\Ext H H'/\(∀ c,c ∉ ts->H' c=H c)/\∀ (m:Nat) t z,ts[m]? = some t->zs[m]? = some z->H' t=some (.tup [z.1,z.2])
 | [],zs,H,I,_,_,_,_=>⟨H,I,Ext.refl _,λ _ _=>rfl,λ m t z h=>by simp at h⟩
 | t::ts,[],H,I,hl,_,_,_=>by simp at hl
 | t::ts,z::zs,H,I,hl,nd,hn,hp=>by
  rw [Sb] at nd;obtain⟨N,ht⟩:=hn t QP;obtain⟨u,v,ru,rv,pr⟩:=hp 0 t z rfl rfl;have I1:=I.adopt (o:=.tup [z.1,z.2]) N ht ⟨(show 2<=sizeLine by decide),[u,v],.cons ru (.cons rv .nil),⟨_,pr,rfl,_,rfl⟩⟩;have up:∀ c∈ts,c ≠ t:=λ c hc e=>nd.1 (e ▸ hc);obtain⟨H',I',e',q',g'⟩:=Inv.adoptAll ts zs I1 (by simpa using hl) nd.2 (λ c hc=>⟨(hn c (QM _ hc)).1,by rw [ah (up c hc)];exact(hn c (QM _ hc)).2⟩) λ m t' z' h1 h2=>hp (m+1) t' z' (by simpa using h1) (by simpa using h2);refine⟨H',I',(Ext.new ht).trans e',λ c hc=>?_,λ m t' z' h1 h2=>?_⟩
  ·rw [q' c (λ h=>hc (QM _ h)),ah (λ h=>hc (by rw [h];exact QP))]
  ·cases m with
   | zero=>
    simp at h1 h2;subst h1;subst h2;rw [q' t nd.1,ar]
   | succ m=>exact g' m t' z' (by simpa using h1) (by simpa using h2)
end
def lzK(xs ys:List V)(H:Hp)(Q:VK):Prop:=∀ (D:Addr) (ts:List V) (H':Hp),H D=none->Ext H H'->H' D=some (.lst ts)->Al (λ z y=>E2 z y H') (xs.zip ys) ts->Q (.ref D) H'
def FG(xs ys:List V)(H:Hp)(Q:VK):lzK xs ys H Q=∀ (D:Addr) (ts:List V) (H':Hp),H D=none->Ext H H'->H' D=some (.lst ts)->Al (λ z y=>E2 z y H') (xs.zip ys) ts->Q (.ref D) H':=rfl
def JR(xs:List V)(H:Hp)(Q:VK):HO->Prop:=λ o=>match o with
 | .lst ys=>lzK xs ys H Q
 | .tup ys=>lzK xs ys H Q
 | _=>False
def DK(xs ys:List V)(H:Hp)(Q:VK):JR xs H Q (.lst ys)=lzK xs ys H Q:=rfl
def Nc(b:Addr)(H:Hp)(Q:VK):HO->Prop:=λ o=>match o with
 | .lst xs=>aH (H b) (JR xs H Q)
 | .tup xs=>aH (H b) (JR xs H Q)
 | _=>False
def DL(b:Addr)(xs:List V)(H:Hp)(Q:VK):Nc b H Q (.lst xs)=aH (H b) (JR xs H Q):=rfl
def J0(Q:VK):List V->Hp->Prop:=λ vs H=>match vs with
 | [.ref a,.ref b]=>aH (H a) (Nc b H Q)
 | _=>False
def L7(Q:VK)(a b:Addr)(H:Hp):J0 Q [.ref a,.ref b] H=aH (H a) (Nc b H Q):=rfl
def tLZ(ta:TA):TE:=λ σ H Q=>ta σ H (J0 Q)
def Ov(ta:TA)(σ:St)(H:Hp)(Q:VK):tLZ ta σ H Q=ta σ H (J0 Q):=rfl
def Jf{Q:VK}{vs:List V}{H:Hp}(h:J0 Q vs H):∃ a b ka kb xs ys,vs=[.ref a,.ref b]/\SqK ka H a xs/\SqK kb H b ys/\lzK xs ys H Q:=by
 unfold J0 at h;split at h
 ·rename_i a b;obtain⟨o,e,h⟩:=ai h;unfold Nc at h;split at h
  ·rename_i xs;obtain⟨o',e',h⟩:=ai h;unfold JR at h;split at h
   ·exact⟨a,b,false,false,xs,_,rfl,e,e',h⟩
   ·exact⟨a,b,false,true,xs,_,rfl,e,e',h⟩
   ·exact h.elim
  ·rename_i xs;obtain⟨o',e',h⟩:=ai h;unfold JR at h;split at h
   ·exact⟨a,b,true,false,xs,_,rfl,e,e',h⟩
   ·exact⟨a,b,true,true,xs,_,rfl,e,e',h⟩
   ·exact h.elim
  ·exact h.elim
 ·exact h.elim
def Inv.sqLe{X:Cx}{pins:List (Addr × Obj)}{σ:St}{H:Hp}{s:Shared}{k:Bool}{a:Addr}{xs:List V}(I:Inv X pins σ H s)(h:SqK k H a xs):xs.length<=sizeLine:=by
 cases k
 ·obtain⟨_,_,_,h⟩:=I.list (SqL.of h);exact h
 ·obtain⟨_,_,_,h⟩:=I.tuple (SqT.of h);exact h
section
variable {X:Cx}
def qe:∀ ts:List Addr,aY (ts.map V.ref) (ts.map Value.ref)
 | []=>.nil
 | _::ts=>.cons rfl (qe ts)
def jr{a b:Expr}{ta:TA}{p p2 pos aS:Pos}(hc:X.calm=true)(hg:Gl X "list")(hm:X.mg "list"=none)(bt:Gl X "zip")(bS:X.mg "zip"=none)(ha:PA X [a,b] ta)(hs:starEach [a,b] X.env=[(false,eval a X.env),(false,eval b X.env)]:=by rfl)(a4:starEach [b] X.env=[(false,eval b X.env)]:=by rfl)(a5:starEach [Expr.Call (.Name "zip" p2) [a,b] [] aS] X.env=[(false,eval (Expr.Call (.Name "zip" p2) [a,b] [] aS) X.env)]:=by rfl)(a6:starEach ([]:List Expr) X.env=[]:=by rfl) :
  PE X (.Call (.Name "list" p) [.Call (.Name "zip" p2) [a,b] [] aS] [] pos) (tLZ ta):=by
 intro pins s σ H Q I h;refine Su (eV I hg hm (show bootBuiltins "list"=some (.type "list") by decide +kernel) ?_);refine Rl ?_ (by rw [a5,a6]) (by rw [a6];rfl);rw [a5]
 show wpAny _ _ (spliced ((false,eval _ X.env)::[])) _ _ s
 refine SQ ?_;refine Call_ (eV I bt bS (show bootBuiltins "zip"=some (.type "zip") by decide +kernel) (Rl (thn (ha aS pins s σ H _ I h) λ us s1 ⟨vs,H1,I1,r1,q1⟩=>?_) (by rw [hs,a4]) (by rw [a4];rfl)));obtain⟨a,b,ka,kb,xs,ys,rfl,sa,sb,q⟩:=Jf q1
 cases r1 with
 | cons r rr=>
  cases rr with
  | cons r' rr=>
   cases rr;cases r;cases r';obtain⟨as,ra,aX⟩:=I1.sq sa;obtain⟨bs,rb,a3⟩:=I1.sq sb;have la:=ra.length;have lb:=rb.length;have lz:=I1.sqLe sa;have b2:=I1.sqLe sb;refine zu aX a3 λ h' n hn e1 e2 e3 e4 e5 e6 e7=>?_;refine TF ?_
   have nn:∀ c∈[n+4,n+2,n+3,n,n+1],n<=c:=λ c hc=>by
    simp only [Q1,QR,Rm] at hc
    rcases hc with rfl|rfl|rfl|rfl|rfl<;>omega
   have al:a < n:=by rw [hn];obtain⟨o,_,e,_⟩:=aX.obj;exact QH e
   have bl:b < n:=by rw [hn];obtain⟨o,_,e,_⟩:=a3.obj;exact QH e
   refine pK (s:={ s1 with heap:=h' }) (I1.ok.hd hc) (by simp) (λ z=>absurd (nn a z) (Nat.not_le.mpr al)) (λ z=>absurd (nn b z) (Nat.not_le.mpr bl)) n nn (by simp;omega) e1 ⟨.inl e1,e2,⟨_,_,e3⟩,⟨e4,aX.at λ o e=>e7 _ o e⟩,e5,a3.at λ o e=>e7 _ o e⟩ λ h2 ts c r1 r2 G r4 r5=>?_;have b1:h2.get? (n+5)=some { cls:=.type "list",dict:=none,data:=.seq (ts.map Value.ref).toArray c,slots:=#[] }:=by rw [←e6];exact r1
   have I2:Inv X pins σ H1 { s1 with heap:=h2 }:=I1.kept (t':=s1.toks) λ c o e=>r5 c o (by rw [hn];exact QH e) (e7 c o e);have a7:ts.length=(xs.zip ys).length:=by rw [r2,Sy];simp;omega
   have fr:∀ t,n<=t->Cr X pins t/\H1 t=none:=λ t ht=>⟨I1.newAt (by rw [←hn];exact ht),I1.hok.fresh (by rw [←hn];exact ht)⟩
   obtain⟨H2,I3,x2,q2,g2⟩:=I2.adoptAll ts (xs.zip ys) a7 G.nd (λ t ht=>fr t (G.lo t ht)) λ m t z h1 h2=>by
    obtain⟨u,v,g1,g2,g3⟩:=G.get m t h1;rw [RB] at h2;obtain⟨u',hu,ru⟩:=ra.get h2.1;obtain⟨v',hv,rv⟩:=rb.get h2.2;have a8:as.toArray[m]? = some u':=by simpa using hu
    have a9:bs.toArray[m]? = some v':=by simpa using hv
    rw [g1] at a8;rw [g2] at a9;cases a8;cases a9;exact⟨u,v,ru,rv,g3⟩
   have hD:H2 (n+5)=none:=by
    rw [q2 _ (by rw [←e6];exact r4)];exact(fr (n+5) (RH ..)).2
   have I4:=I3.adopt (o:=.lst (ts.map V.ref)) (fr (n+5) (RH ..)).1 hD ⟨by rw [QE,r2];simp;omega,ts.map Value.ref,c,qe ts,b1⟩;refine⟨.ref (n+5),_,I4,by rw [←e6];rfl,q (n+5) (ts.map V.ref) _ (fr (n+5) (RH ..)).2 (x2.trans (Ext.new hD)) ar ⟨by rw [QE,a7],λ m z y hz hy=>?_⟩⟩;rw [QL] at hy;obtain⟨t,ht,rfl⟩:=QJ.mp hy;exact⟨t,rfl,by rw [ah (λ e=>r4 (by rw [e6,←e];exact QV ht))];exact g2 m t z ht hz⟩
end
def Gs(H:Hp)(Q:VK):List Int->Prop:=λ ns=>0 < ns.length/\∀ M,M∈ns->(∀ a∈ns,M<=a)->Q (.int M) H
def GF(H:Hp)(Q:VK)(ns:List Int):Gs H Q ns=(0 < ns.length/\∀ M,M∈ns->(∀ a∈ns,M<=a)->Q (.int M) H):=rfl
def Gu(H:Hp)(Q:VK):List Int->Prop:=λ ns=>0 < ns.length/\∀ M,M∈ns->(∀ a∈ns,a<=M)->Q (.int M) H
def GG(H:Hp)(Q:VK)(ns:List Int):Gu H Q ns=(0 < ns.length/\∀ M,M∈ns->(∀ a∈ns,a<=M)->Q (.int M) H):=rfl
def FX:List V->Hp->VK->Prop:=λ vs H Q=>match vs with
 | [.ref p]=>aH (az H p) (dR (Gs H Q))
 | _=>False
def HR(p:Addr)(H:Hp)(Q:VK):FX [.ref p] H Q=aH (az H p) (dR (Gs H Q)):=rfl
def FZ:List V->Hp->VK->Prop:=λ vs H Q=>match vs with
 | [.ref p]=>aH (az H p) (dR (Gu H Q))
 | _=>False
def HU(p:Addr)(H:Hp)(Q:VK):FZ [.ref p] H Q=aH (az H p) (dR (Gu H Q)):=rfl
section
variable {X:Cx}
def xa(hc:X.calm=true):cn X (.builtin "min") FX:=by
 intro pins s σ H vs us Q I r h;unfold FX at h;split at h
 ·rename_i p;obtain⟨xs,e,ns,rfl,hn,q⟩:=ai h
  cases r with
  | cons r rr=>
   cases rr;cases r;obtain⟨its,rv,pl,hz⟩:=I.list (SqL.of (bp e));have aS:p < s.heap.objs.size:=by obtain⟨_,e,_⟩:=pl.isList;exact QH e
   have hlen:its.length=ns.length:=by have:=rv.length;simpa using this.symm
   have hsz:its.toArray.size=ns.length:=by simp [hlen]
   have hP:∀ (i:Nat) (v:Value),its.toArray[i]? = some v->∃ t,v=.int (ns.getD i 0) t:=λ i v hP=>by
    have hv:its[i]? = some v:=by simpa using hP
    have hi:i < ns.length:=by rw [←hlen];exact(QD.mp hv).1
    obtain⟨u,hu,ru⟩:=rv.get (i:=i) (x:=.int (ns.getD i 0)) (by rw [QL,QB hi];simp [List.getD,QB hi]);rw [hv] at hu;cases hu;exact ru
   refine call_min_walkS (Si pl.isList ⟨s.heap.objs.size,_,_,_,_,_,_,λ i j=>decide (ns.getD i 0 < ns.getD j 0),rfl,(UL (show X.A.in1.handled=none from I.ok.hd hc) _ p (QY aS) its.toArray).toS,⟨⟨_,QN _ rfl,rfl,rfl⟩,pl.isList.push _⟩,λ b hb=>?_,by rw [hsz];exact hn,CmpOf.ints_lt (λ i=>ns.getD i 0) λ i v h=>hP i v h,λ v s' hv hm=>?_⟩)
   ·rw [Ri]
    rcases Q1.mp hb with rfl|hb
    ·exact RU _
    ·rw [QF.mp hb];exact Tn aS
   ·obtain⟨hp,g,d,tk,os⟩:=s'
    have kp:∀ b o,s.heap.get? b=some o->hp.get? b=some o:=λ b o e=>hm.heap b o (λ aX=>by
     have:b=s.heap.objs.size:=by simpa using aX
     subst this;exact absurd (QH e) (Ry _)) (QC _ e)
    have e1:g=s.gens:=hm.gens;have e2:d=s.drawn:=hm.drawn;have e3:os=s.os:=hm.os;subst e1 e2 e3;obtain⟨b1,b2⟩:=argBest_lt (λ i=>ns.getD i 0) (its.toArray.size - 1);have a3:=hP _ v hv;generalize argBest (λ i j=>decide (ns.getD i 0 < ns.getD j 0)) (its.toArray.size - 1)=k at b1 b2 a3;rw [hsz] at b1 b2;have hk:k < ns.length:=by omega
    refine⟨.int (ns.getD k 0),H,I.kept (t':=tk) kp,a3,q _ ?_ λ a ha=>?_⟩
    ·rw [List.getD,QB hk];exact Sd hk
    ·obtain⟨j,hj,rfl⟩:=SH ha;have:=b2 j (by omega);rw [show ns.getD j 0=ns[j] by rw [List.getD,QB hj];rfl] at this;exact this
 ·exact h.elim
def xc(hc:X.calm=true):cn X (.builtin "max") FZ:=by
 intro pins s σ H vs us Q I r h;unfold FZ at h;split at h
 ·rename_i p;obtain⟨xs,e,ns,rfl,hn,q⟩:=ai h
  cases r with
  | cons r rr=>
   cases rr;cases r;obtain⟨its,rv,pl,hz⟩:=I.list (SqL.of (bp e));have aS:p < s.heap.objs.size:=by obtain⟨_,e,_⟩:=pl.isList;exact QH e
   have hlen:its.length=ns.length:=by have:=rv.length;simpa using this.symm
   have hsz:its.toArray.size=ns.length:=by simp [hlen]
   have hP:∀ (i:Nat) (v:Value),its.toArray[i]? = some v->∃ t,v=.int (ns.getD i 0) t:=λ i v hP=>by
    have hv:its[i]? = some v:=by simpa using hP
    have hi:i < ns.length:=by rw [←hlen];exact(QD.mp hv).1
    obtain⟨u,hu,ru⟩:=rv.get (i:=i) (x:=.int (ns.getD i 0)) (by rw [QL,QB hi];simp [List.getD,QB hi]);rw [hv] at hu;cases hu;exact ru
   refine call_max_walkS (Si pl.isList ⟨s.heap.objs.size,_,_,_,_,_,_,λ i j=>decide (ns.getD i 0 > ns.getD j 0),rfl,(UL (show X.A.in1.handled=none from I.ok.hd hc) _ p (QY aS) its.toArray).toS,⟨⟨_,QN _ rfl,rfl,rfl⟩,pl.isList.push _⟩,λ b hb=>?_,by rw [hsz];exact hn,CmpOf.ints_gt (λ i=>ns.getD i 0) λ i v h=>hP i v h,λ v s' hv hm=>?_⟩)
   ·rw [Ri]
    rcases Q1.mp hb with rfl|hb
    ·exact RU _
    ·rw [QF.mp hb];exact Tn aS
   ·obtain⟨hp,g,d,tk,os⟩:=s'
    have kp:∀ b o,s.heap.get? b=some o->hp.get? b=some o:=λ b o e=>hm.heap b o (λ aX=>by
     have:b=s.heap.objs.size:=by simpa using aX
     subst this;exact absurd (QH e) (Ry _)) (QC _ e)
    have e1:g=s.gens:=hm.gens;have e2:d=s.drawn:=hm.drawn;have e3:os=s.os:=hm.os;subst e1 e2 e3;obtain⟨b1,b2⟩:=argBest_gt (λ i=>ns.getD i 0) (its.toArray.size - 1);have a3:=hP _ v hv;generalize argBest (λ i j=>decide (ns.getD i 0 > ns.getD j 0)) (its.toArray.size - 1)=k at b1 b2 a3;rw [hsz] at b1 b2;have hk:k < ns.length:=by omega
    refine⟨.int (ns.getD k 0),H,I.kept (t':=tk) kp,a3,q _ ?_ λ a ha=>?_⟩
    ·rw [List.getD,QB hk];exact Sd hk
    ·obtain⟨j,hj,rfl⟩:=SH ha;have:=b2 j (by omega);rw [show ns.getD j 0=ns[j] by rw [List.getD,QB hj];rfl] at this;exact this
 ·exact h.elim
end
def Gw(l:Addr)(xs:List V)(H:Hp)(Q:VK):List V->Prop:=λ zs=>xs.length+zs.length<=sizeLine/\Q .non (upd H l (.lst (xs++zs)))
def ID(l:Addr)(xs:List V)(H:Hp)(Q:VK)(zs:List V):Gw l xs H Q zs=(xs.length+zs.length<=sizeLine/\Q .non (upd H l (.lst (xs++zs)))):=rfl
def Kw(l b:Addr)(H:Hp)(Q:VK):List V->Prop:=λ xs=>aH (az H b) (Gw l xs H Q)
def IE(l b:Addr)(H:Hp)(Q:VK)(xs:List V):Kw l b H Q xs=aH (az H b) (Gw l xs H Q):=rfl
def AE(l b:Addr)(H:Hp)(Q:VK):yE (.ref l) [.ref b] H Q=aH (az H l) (Kw l b H Q):=by
 refine propext ⟨λ h=>?_,λ h=>?_⟩
 ·obtain⟨l',b',xs,zs,e1,e2,h1,h2,h3,q⟩:=h;cases e1;cases e2;unfold az;rw [h1]
  show aH (az H b) _
  unfold az;rw [h2];exact⟨h3,q⟩
 ·obtain⟨xs,e,h⟩:=ai h;obtain⟨zs,e2,h3,q⟩:=ai h;exact⟨l,b,xs,zs,rfl,rfl,bp e,bp e2,h3,q⟩
section
variable {X:Cx}{a b c d:Expr}{ta tb tc td:TE}{pos:Pos}
end
section
variable {k:Nat}{g:TG}{tt:TT}{te:TE}{σ:St}{Q:VK}{H:Hp}{K:PySem.W.Frag}
def dH{α:Type}{J:It}(zs:List α)(c:α->Bool)(P:α->V->Hp->Prop)(R:Addr->α->V->Hp->Prop)
  (a6:∀ i z H',zs[i]? = some z->Ext H H'->J.go i H'/\∀ x aS,J.yld i H' x aS->Ext H' aS/\P z x aS)
  (a7:∀ H',Ext H H'->J.stop zs.length H')
  (a4:∀ D z y H1 H2,R D z y H1->Ext H1 H2->R D z y H2) (a5:∀ D z y H1 xs o,R D z y H1->H1 D=some (.lst xs)->R D z y (upd H1 D o))
  (hl:zs.length<=sizeLine)
  (hs:∀ D z x H' N1 N0,z∈zs->H D=none->Ext H H'->(∃ ys,H' D=some (.lst ys))->P z x H'->(c z=true->∀ y aS,Ext H' aS->R D z y aS->N1 y aS)->(c z=false->∀ aS,Ext H' aS->N0 aS)->g x (List.replicate k none++σ) H' (kCm k tt te σ N1 N0))
  (hd:∀ D ys H',H D=none->Ext H H'->H' D=some (.lst ys)->Al (λ z y=>R D z y H') (zs.filter c) ys->Q (.ref D) H'):Cj k g tt te σ Q J H:=by
 intro D hD;refine⟨λ i m ys H'=>m=zs.length - i/\i<=zs.length/\Ext H H'/\H' D=some (.lst ys)/\Al (λ z y=>R D z y H') ((zs.take i).filter c) ys,⟨zs.length,by simp,RP _,Ext.new hD,ar,by simpa using Al.nil⟩,?_⟩;rintro i m ys H' ⟨rfl,hi,e,aX,al⟩
 by_cases hlt:i < zs.length
 ·have hz:zs[i]? = some zs[i]:=QB hlt;obtain⟨go,y⟩:=a6 i zs[i] H' hz e;have tk:zs.take (i+1)=zs.take i++[zs[i]]:=by rw [Us,hz];rfl
  have ln:ys.length < sizeLine:=by
   have h1:=al.1;have h2:=Tu c (zs.take i);simp only [Rf] at h2;omega
  refine .inr ⟨go,λ a3 H2=>Ext H H2/\H2 D=some (.lst a3)/\Al (λ z y=>R D z y H2) ((zs.take (i+1)).filter c) a3,λ a3 H2 p=>⟨zs.length - (i+1),by omega,rfl,hlt,p⟩,λ x H2 z=>?_⟩;obtain⟨e2,p2⟩:=y x H2 z;refine hs D zs[i] x H2 (kC3 D ys _) _ (Sd hlt) hD (e.trans e2) ⟨ys,e2.at aX⟩ p2 (λ hc y H3 e3 r3=>?_) λ hc H3 e3=>?_
  ·refine⟨e3.at (e2.at aX),ln,(e.trans (e2.trans e3)).put hD,ar,?_⟩;rw [tk,TU,show [zs[i]].filter c=[zs[i]] by simp [hc]];exact Al.snoc (al.imp λ z y r=>a5 _ _ _ _ _ _ (a4 _ _ _ _ _ r (e2.trans e3)) (e3.at (e2.at aX))) (a5 _ _ _ _ _ _ r3 (e3.at (e2.at aX)))
  ·refine⟨e.trans (e2.trans e3),(e2.trans e3).at aX,?_⟩;rw [tk,TU,show [zs[i]].filter c=[] by simp [hc],Tg];exact al.imp λ z y r=>a4 _ _ _ _ _ r (e2.trans e3)
 ·have e':i=zs.length:=by omega
  subst e';rw [Rz] at al;exact .inl ⟨a7 H' e,hd D ys H' hD e aX al⟩
end
def Ite(l:Addr)(xs:List V):It:=
 ⟨λ i H=>H l=some (.lst xs)/\i < xs.length,λ i H x H'=>∃ p u,H p=none/\x=.ref p/\xs[i]? = some u/\H'=upd H p (.tup [.int (i:Int),u]),λ i H=>H l=some (.lst xs)/\i=xs.length⟩
def Tne(l e it:Addr)(i:Nat)(h:Heap):Prop:=(∃ old,IsEnum h e it (i:Int) old)/\h.IsListIter it l i
def zZ{P:Program}{w:World}{K:PySem.W.Frag}{elts:List Expr}{x1}{tp:Pos}(l e it:Addr)(xs:List V)(ne:e ≠ it):B8 P w K (.Tuple elts x1 tp) (Ite l xs) [e,it] e (Tne l e it) where
 mem:=QP
 obj:=λ i h st c hc=>by
  obtain⟨⟨old,e1⟩,e2⟩:=st;simp only [Q1,QR,Rm] at hc
  rcases hc with rfl|rfl
  ·exact⟨_,e1,λ v z=>by cases z⟩
  ·obtain⟨o,e,_,d⟩:=e2;exact⟨o,e,λ v z=>by rw [d] at z;cases z⟩
 keep:=λ i h h' st k=>by
  obtain⟨⟨old,e1⟩,e2⟩:=st;exact⟨⟨old,k e (by simp) _ e1⟩,e2.at λ o q=>k it (by simp) o q⟩
 item:=by
  intro X hP hw hK hc i pins s σ H E I hf st hg;subst hP hw hK;obtain⟨ha,l1⟩:=hg;obtain⟨as,ra,pl,_⟩:=I.list (SqL.of ha);have hx:xs[i]? = some xs[i]:=QB l1;obtain⟨u,hu,ru⟩:=ra.get hx;have free:∀ c∈[e,it],H c=none:=λ c h=>(hf c h).1;have aX:l ≠ e:=λ z=>by have:=free e (by simp);rw [←z,ha] at this;cases this
  have a3:l ≠ it:=λ z=>by have:=free it (by simp);rw [←z,ha] at this;cases this
  have W:=WalksT.enumerate (prog:=X.prog) (w:=X.w) (I.ok.hd hc) e it l ne aX a3 as.toArray;have la:=ra.length;obtain⟨e1,e2⟩:=st;obtain⟨old,a5⟩:=e1;refine W.item i s _ E (by simp;omega) ⟨⟨old,a5⟩,e2,pl.isList⟩ λ T vals h1 tk hp hle hT aS kp=>⟨_,rfl,?_⟩;refine W.go elts x1 tp i T ⟨h1,s.gens,s.drawn,tk,s.os⟩ _ E aS λ h2 a6 a7=>?_;have nT:=W.apart i T h1 aS;obtain⟨a4,x,a8,rfl⟩:=hp
  have a9:x=u:=by
   have:as[i]? = some x:=by simpa using a8
   rw [hu] at this;exact(Q2 this).symm
  subst a9;have bt:h2.IsTuple T #[.int (i:Int) a4,x]:=hT.at λ o q=>a7 T o nT q;have I2:Inv X pins σ (upd H T (.tup [.int (i:Int),xs[i]])) { s with heap:=h2,toks:=tk }:=I.turnNew (t':=tk) (ch:=[e,it]) (λ c hc=>hf c hc) (λ c o hc q=>a7 c o hc (kp c o hc q)) hle ⟨(show 2<=sizeLine by decide),[.int (i:Int) a4,x],.cons ⟨a4,rfl⟩ (.cons ru .nil),bt⟩;have fr:H T=none:=I.hok.fresh hle;refine⟨.ref T,_,I2,rfl,⟨_,_,fr,rfl,hx,rfl⟩,⟨a6.1,a6.2.1⟩,λ c hc=>?_⟩
  have bS:c < s.heap.objs.size:=by
   simp only [Q1,QR,Rm] at hc
   rcases hc with rfl|rfl
   ·exact QH a5
   ·obtain⟨o,q,_⟩:=e2;exact QH q
  rw [ah (QY (Q0 bS hle))];exact free c hc
 done:=by
  intro X hP hw hK hc i pins s σ H E I hf st hg;subst hP hw hK;obtain⟨ha,rfl⟩:=hg;obtain⟨as,ra,pl,_⟩:=I.list (SqL.of ha);have free:∀ c∈[e,it],H c=none:=λ c h=>(hf c h).1;have aX:l ≠ e:=λ z=>by have:=free e (by simp);rw [←z,ha] at this;cases this
  have a3:l ≠ it:=λ z=>by have:=free it (by simp);rw [←z,ha] at this;cases this
  have W:=WalksT.enumerate (prog:=X.prog) (w:=X.w) (I.ok.hd hc) e it l ne aX a3 as.toArray;have la:=ra.length;have hsz:as.toArray.size=xs.length:=by simp [la]
  obtain⟨e1,e2⟩:=st;refine W.done s _ E (by rw [hsz];exact⟨e1,e2,pl.isList⟩) λ h' tk kp=>⟨rfl,I.turnL (t':=tk) (ch:=[e,it]) (λ c hc=>hf c hc) kp⟩
 self:=λ A i s Q E st h=>by
  obtain⟨⟨old,e1⟩,e2⟩:=st;exact wpAny_pyIter_enum e1 h
def NQ(l:Addr)(H:Hp)(R:It->Hp->Prop):List V->Prop:=λ xs=>R (Ite l xs) H
def Mg(l:Addr)(H:Hp)(R:It->Hp->Prop)(xs:List V):NQ l H R xs=R (Ite l xs) H:=rfl
def Ng(R:It->Hp->Prop):List V->Hp->Prop:=λ vs H=>match vs with
 | [.ref l]=>aH (az H l) (NQ l H R)
 | _=>False
def Mh(R:It->Hp->Prop)(l:Addr)(H:Hp):Ng R [.ref l] H=aH (az H l) (NQ l H R):=rfl
def KC(ta:TA):TI:=λ σ H R=>ta σ H (Ng R)
def IQ(ta:TA)(σ:St)(H:Hp)(R:It->Hp->Prop):KC ta σ H R=ta σ H (Ng R):=rfl
section
variable {X:Cx}
def Hl{a:Expr}{elts:List Expr}{x1}{tp:Pos}{ta:TA}{p pos:Pos}(hg:Gl X "enumerate")(hm:X.mg "enumerate"=none)(ha:PA X [a] ta)(he:starEach [a] X.env=[(false,eval a X.env)]:=by rfl) :
  PI X (.Tuple elts x1 tp) (.Call (.Name "enumerate" p) [a] [] pos) (KC ta):=by
 intro pins s σ H R I h;refine Call_ (eV I hg hm (show bootBuiltins "enumerate"=some (.type "enumerate") by decide +kernel) (PyProof.Rows.callWith_type1 (thn (ha pos pins s σ H _ I h) λ us s1 ⟨vs,H1,I1,r1,q1⟩=>?_) (by rw [he];rfl) (by rfl)));unfold Ng at q1;split at q1
 ·rename_i l;obtain⟨xs,e,q⟩:=ai q1;replace e:=bp e
  cases r1 with
  | cons r rr=>
   cases rr;cases r;obtain⟨as,ra,pl,_⟩:=I1.list (SqL.of e);refine call_enumerate_list pl.isList λ h' e1 e2 e3 e4=>?_;have I2:Inv X pins σ H1 { s1 with heap:=h' }:=I1.kept (t':=s1.toks) e4;refine wpAny_pyIter_enum (s:={ s1 with heap:=h' }) e1 ⟨s1.heap.objs.size+1,[s1.heap.objs.size+1,s1.heap.objs.size],_,_,H1,rfl,I2,zZ l (s1.heap.objs.size+1) s1.heap.objs.size xs (by simp),⟨⟨_,e1⟩,e2⟩,λ c hc=>?_,q⟩
   have hle:s1.heap.objs.size<=c:=by
    simp only [Q1,QR,Rm] at hc
    rcases hc with rfl|rfl
    ·exact RH ..
    ·exact QK _
   exact I1.fpOk hle (I1.hok.fresh hle)
 ·exact q1.elim
end
section
variable {g:TG}{σ:St}{Q:VK}{H:Hp}{K:PySem.W.Frag}
def EC{tb:TS}{nx:St->Hp->Prop}{rt:VK}{bk ct:St->Hp->Prop}{l:Addr}{xs:List V}(Pv:Nat->St->Hp->Prop)(h0:Pv 0 σ H)(hl:∀ i σ H,Pv i σ H->H l=some (.lst xs))
  (hs:∀ i u p σ H H',xs[i]? = some u->Pv i σ H->H p=none->Ext H H'->H' p=some (.tup [.int (i:Int),u])->g (.ref p) σ H' (sk tb ⟨Pv (i+1),rt,nx,Pv (i+1)⟩)) (hd:∀ σ H,Pv xs.length σ H->nx σ H):FD g tb ⟨nx,rt,bk,ct⟩ σ (Ite l xs) H:=by
 refine⟨λ i m σ H=>m=xs.length - i/\i<=xs.length/\Pv i σ H,⟨xs.length,by simp,RP _,h0⟩,?_⟩;rintro i m σ H ⟨rfl,hi,p⟩;have qa:=hl i σ H p
 by_cases hlt:i < xs.length
 ·refine .inr ⟨⟨qa,hlt⟩,Pv (i+1),λ σ' H' p'=>⟨xs.length - (i+1),by omega,rfl,hlt,p'⟩,λ x H' y=>?_⟩;obtain⟨r,u,hr,rfl,hu,rfl⟩:=y;exact hs i u r σ H _ hu p hr (Ext.new hr) ar
 ·have e:i=xs.length:=by omega
  subst e;exact .inl ⟨⟨qa,rfl⟩,hd σ H p⟩
end
section
variable {X:Cx}{CX:CXT}{k:Nat}{f C:Addr}{fd:FuncData}{ps:List Str}{sp:Sp}{dvs:List V}{ds:List Value}{E:St->XK}{x m:Str}{p pos apos:Pos}{e o:Expr}{es:List Expr}{ta:TE}{t:TA}
end
section
variable {X:Cx}{e st:Expr}{te tst:TE}{pos p2:Pos}
end
def rY(n:Int):List V:=(List.range n.toNat).map λ (i:Nat)=>V.int (i:Int)
def kLR(Q:VK):List V->Hp->Prop:=λ vs H=>match vs with
 | [.int n]=>0<=n/\n<=4096/\jb (.lst (rY n)) H Q
 | _=>False
def FH(Q:VK)(n:Int)(H:Hp):kLR Q [.int n] H=(0<=n/\n<=4096/\jb (.lst (rY n)) H Q):=rfl
def tLR(ta:TA):TE:=λ σ H Q=>ta σ H (kLR Q)
def Ow(ta:TA)(σ:St)(H:Hp)(Q:VK):tLR ta σ H Q=ta σ H (kLR Q):=rfl
def tw{n:Int}(h0:n<=4096)(h1:-5000<=n):Builtin.Range.small 0 n 1=true/\Builtin.Range.rangeSize 0 n 1=((n.toNat:Nat):Int):=by
 have e:Builtin.Range.rangeSize 0 n 1=((n.toNat:Nat):Int):=by
  unfold Builtin.Range.rangeSize;rw [if_pos (by decide)];split
  ·rw [Int.ediv_one];omega
  ·omega
 refine⟨?_,e⟩;unfold Builtin.Range.small;rw [e,if_pos (by decide)];unfold Builtin.Range.rangeFitsLong;simp;omega
def lj:∀ {xs:List V}{us:List Value},us.length=xs.length->(∀ (i:Nat) (x:V) (u:Value),xs[i]? = some x->us[i]? = some u->bF x u)->aY xs us
 | [],[],_,_=>.nil
 | [],_::_,h,_=>by cases h
 | _::_,[],h,_=>by cases h
 | x::xs,u::us,h,k=>.cons (k 0 x u rfl rfl) (lj (by simpa using h) λ i y w a b=>k (i+1) y w (by simpa using a) (by simpa using b))
section
variable {X:Cx}
def gm{a:Expr}{ta:TA}{p p2 pos aS:Pos}(hc:X.calm=true)(hg:Gl X "list")(hm:X.mg "list"=none)(a5:Gl X "range")(a6:X.mg "range"=none)(ha:PA X [a] ta)(hs:starEach [a] X.env=[(false,eval a X.env)]:=by rfl)(aX:starEach [Expr.Call (.Name "range" p2) [a] [] aS] X.env=[(false,eval (Expr.Call (.Name "range" p2) [a] [] aS) X.env)]:=by rfl)(a3:starEach ([]:List Expr) X.env=[]:=by rfl) :
  PE X (.Call (.Name "list" p) [.Call (.Name "range" p2) [a] [] aS] [] pos) (tLR ta):=by
 intro pins s σ H Q I h;refine Su (eV I hg hm (show bootBuiltins "list"=some (.type "list") by decide +kernel) ?_);refine Rl ?_ (by rw [aX,a3]) (by rw [a3];rfl);rw [aX]
 show wpAny _ _ (spliced ((false,eval _ X.env)::[])) _ _ s
 refine Calls.spliced_cons ?_;refine Call_ (eV I a5 a6 boot_range (PyProof.Rows.callWith_type1 (thn (ha aS pins s σ H _ I h) λ us s1 ⟨vs,H1,I1,r1,q1⟩=>?_) hs rfl));unfold kLR at q1;split at q1
 ·rename_i n;obtain⟨a9,hn,q⟩:=q1
  cases r1 with
  | cons r rr=>
   cases rr;obtain⟨t,rfl⟩:=r;refine call_range_1 ?_;refine TF ?_;obtain⟨k1,k2⟩:=tw hn (by omega);have I2:Inv X pins σ H1 { s1 with heap:=s1.heap.push { cls:=.type "range",data:=.fields #[.int 0 s1.toks,.int n t,.int 1 (s1.toks+1)] },toks:=s1.toks+1+1 }:=I1.kept (t':=s1.toks+1+1) λ b ob e=>QC _ e;refine call_list_range (s:={ s1 with heap:=s1.heap.push { cls:=.type "range",data:=.fields #[.int 0 s1.toks,.int n t,.int 1 (s1.toks+1)] },toks:=s1.toks+1+1 }) (n:=n.toNat) (I1.ok.hd hc) (QN _ rfl) k1 k2 (by omega) λ h' tk acc c kp a4 hit=>?_;have fr:=I2.hok.fresh (QK _)
   have hv:aY (rY n) acc.toList:=by
    refine lj (by unfold rY;rw [length_map,length_range,Array.length_toList,hit.1]) λ i x u hx hu=>?_;unfold rY at hx;rw [getElem?_map] at hx;obtain⟨j,hj,rfl⟩:=Option.map_eq_some_iff.mp hx;obtain⟨bt,a7⟩:=List.getElem?_eq_some_iff.mp hj;have ej:i=j:=by simpa using a7
    subst ej;obtain⟨a8,e⟩:=hit.2 i u (by simpa using hu);exact⟨a8,by rw [e];congr 1;omega⟩
   refine⟨.ref (s1.heap.push { cls:=.type "range",data:=.fields #[.int 0 s1.toks,.int n t,.int 1 (s1.toks+1)] }).objs.size,_,I2.laid (t':=tk) (o:=.lst (rY n)) kp (QK _) ⟨?_,acc.toList,c,hv,?_⟩,rfl,q _ _ fr (Ext.new fr) ar⟩
   ·unfold rY;rw [length_map,length_range];exact aj (by omega)
   ·exact a4
 ·exact q1.elim
end
def fN{n:Nat}(h:n+64 < cLine):n+1 < cLine:=by omega
def NT(Q:VK)(x:V):VK:=λ y H=>∃ a v,x=.ref a/\pO H a y (some v)/\Q v H
def PM(ty:TE)(σ:St)(Q:VK):VK:=λ x H=>ty σ H (NT Q x)
def Ml(ty:TE)(σ:St)(Q:VK)(x:V)(H:Hp):PM ty σ Q x H=ty σ H (NT Q x):=rfl
def HI(td ty:TE)(σ:St)(H:Hp)(Q:VK):J9 td ty σ H Q=td σ H (PM ty σ Q):=rfl
def E9{H:Hp}{a:Addr}{kvs:List (Key × V)}{k:Key}{v:V}{Q:VK}(e:H a=some (.dK kvs))(h:eP kvs k=some v)(q:Q v H):NT Q (.ref a) (kV k) H:=⟨a,v,rfl,h ▸ pO.k e,q⟩
def Pk(neg:Bool):R2:=λ y x H Q=>∃ a o,x=.ref a/\pO H a y o/\Q (.bl (if neg=true then !o.isSome else o.isSome)) H
def E8{neg:Bool}{H:Hp}{a:Addr}{kvs:List (Key × V)}{k:Key}{Q:VK}(e:H a=some (.dK kvs))(q:Q (.bl (if neg=true then !(eP kvs k).isSome else (eP kvs k).isSome)) H):Pk neg (kV k) (.ref a) H Q:=⟨a,_,rfl,pO.k e,q⟩
section
variable {X:Cx}
def Fm(hu:X.A.units+1 < cLine):OpR X (compareOp .In) (Pk false):=by
 intro pins s σ H x y v u Q I rx ry h;obtain⟨a,o,rfl,g,q⟩:=h;obtain rfl:u=Value.ref a:=ry;exact Qv hu I g rx λ s3 I3=>⟨.bl o.isSome,H,I3,rfl,q⟩
end
def NR(nx:St->Hp->Prop)(σ:St)(v x:V):VK:=λ y H=>∃ a H4,x=.ref a/\JT H a y v H4/\nx σ H4
def NS(ty:TE)(nx:St->Hp->Prop)(σ:St)(v:V):VK:=λ x H=>ty σ H (NR nx σ v x)
def Mi(ty:TE)(nx:St->Hp->Prop)(σ:St)(v x:V)(H:Hp):NS ty nx σ v x H=ty σ H (NR nx σ v x):=rfl
def PL(td ty:TE)(nx:St->Hp->Prop)(σ:St):VK:=λ v H=>td σ H (NS ty nx σ v)
def Mj(td ty:TE)(nx:St->Hp->Prop)(σ:St)(v:V)(H:Hp):PL td ty nx σ v H=td σ H (NS ty nx σ v):=rfl
def HM(td ty tv:TE)(nx:St->Hp->Prop)(rt:VK)(bk ct:St->Hp->Prop)(σ:St)(H:Hp):Kd td ty tv ⟨nx,rt,bk,ct⟩ σ H=tv σ H (PL td ty nx σ):=rfl
def pT{H:Hp}{a:Addr}{kvs:List (Key × V)}{k:Key}{v:V}{nx:St->Hp->Prop}{σ:St}(e:H a=some (.dK kvs))(hl:kvs.length < sizeLine)(q:nx σ (upd H a (.dK (lY kvs k v)))):NR nx σ v (.ref a) (kV k) H:=⟨a,_,rfl,JT.k e hl,q⟩
def jI:∀ {us:List Value}{ns:List Int},IntsAre us ns->aY (ns.map V.int) us
 | _,_,.nil=>.nil
 | _,_,.cons n t r=>.cons ⟨t,rfl⟩ (jI r)
section
variable {X:Cx}
end
def tV(i:Nat):TE:=λ σ H Q=>match σ[i]? with
 | some (some v)=>Q v H
 | _=>False
def J3(i:Nat):MZ i=tV i:=by
 funext σ H Q;refine propext ⟨λ ⟨v,e,q⟩=>?_,λ h=>?_⟩
 ·unfold tV;rw [e];exact q
 ·unfold tV at h;split at h
  ·rename_i v e;exact⟨v,e,h⟩
  ·exact h.elim
def Lx{v:V}{σ:St}{H:Hp}{Q:VK}:tV 0 (some v::σ) H Q=Q v H:=rfl
def Lw{a0:Option V}{v:V}{σ:St}{H:Hp}{Q:VK}:tV 1 (a0::some v::σ) H Q=Q v H:=rfl
def Lv{a0 a1:Option V}{v:V}{σ:St}{H:Hp}{Q:VK}:tV 2 (a0::a1::some v::σ) H Q=Q v H:=rfl
def Lu{a0 a1 a2:Option V}{v:V}{σ:St}{H:Hp}{Q:VK}:tV 3 (a0::a1::a2::some v::σ) H Q=Q v H:=rfl
def Ls{a0 a1 a2 a3:Option V}{v:V}{σ:St}{H:Hp}{Q:VK}:tV 4 (a0::a1::a2::a3::some v::σ) H Q=Q v H:=rfl
def Lr{a0 a1 a2 a3 a4:Option V}{v:V}{σ:St}{H:Hp}{Q:VK}:tV 5 (a0::a1::a2::a3::a4::some v::σ) H Q=Q v H:=rfl
def Lq{a0 a1 a2 a3 a4 a5:Option V}{v:V}{σ:St}{H:Hp}{Q:VK}:tV 6 (a0::a1::a2::a3::a4::a5::some v::σ) H Q=Q v H:=rfl
def Lp{a0 a1 a2 a3 a4 a5 a6:Option V}{v:V}{σ:St}{H:Hp}{Q:VK}:tV 7 (a0::a1::a2::a3::a4::a5::a6::some v::σ) H Q=Q v H:=rfl
def Lo{a0 a1 a2 a3 a4 a5 a6 a7:Option V}{v:V}{σ:St}{H:Hp}{Q:VK}:tV 8 (a0::a1::a2::a3::a4::a5::a6::a7::some v::σ) H Q=Q v H:=rfl
def Ln{a0 a1 a2 a3 a4 a5 a6 a7 a8:Option V}{v:V}{σ:St}{H:Hp}{Q:VK}:tV 9 (a0::a1::a2::a3::a4::a5::a6::a7::a8::some v::σ) H Q=Q v H:=rfl
def nI0(g:Int->Int->V):R2:=λ x y H Q=>match x,y with
 | .int i,.int j=>Q (g i j) H
 | _,_=>False
def OE(g:Int->Int->V)(i j:Int)(H:Hp)(Q:VK):nI0 g (.int i) (.int j) H Q=Q (g i j) H:=rfl
def mG(g:Int->Int->V):rI0 g=nI0 g:=by
 funext x y H Q;refine propext ⟨λ ⟨i,j,e,e',q⟩=>by subst e e';exact q,λ h=>?_⟩;unfold nI0 at h;split at h
 ·exact⟨_,_,rfl,rfl,h⟩
 ·exact h.elim
def nI(C:Int->Int->Prop)(g:Int->Int->V):R2:=λ x y H Q=>match x,y with
 | .int i,.int j=>C i j/\Q (g i j) H
 | _,_=>False
def Qo(C:Int->Int->Prop)(g:Int->Int->V)(i j:Int)(H:Hp)(Q:VK):nI C g (.int i) (.int j) H Q=(C i j/\Q (g i j) H):=rfl
def xA(C:Int->Int->Prop)(g:Int->Int->V):rI C g=nI C g:=by
 funext x y H Q;refine propext ⟨λ ⟨i,j,e,e',q⟩=>by subst e e';exact q,λ h=>?_⟩;unfold nI at h;split at h
 ·exact⟨_,_,rfl,rfl,h⟩
 ·exact h.elim
def nU(g:Int->V):V->Hp->VK->Prop:=λ x H Q=>match x with
 | .int i=>Q (g i) H
 | _=>False
def Qn(g:Int->V)(i:Int)(H:Hp)(Q:VK):nU g (.int i) H Q=Q (g i) H:=rfl
def Om(g:Int->V):rU g=nU g:=by
 funext x H Q;refine propext ⟨λ ⟨i,e,q⟩=>by subst e;exact q,λ h=>?_⟩;unfold nU at h;split at h
 ·exact⟨_,rfl,h⟩
 ·exact h.elim
def mJ(Q:Bool->Hp->Prop):VK:=λ x H=>match x with
 | .bl k=>Q k H
 | _=>False
def DH(Q:Bool->Hp->Prop)(k:Bool)(H:Hp):mJ Q (.bl k) H=Q k H:=rfl
def En(Q:Bool->Hp->Prop):Kt Q=mJ Q:=by
 funext x H;refine propext ⟨λ ⟨k,e,q⟩=>by subst e;exact q,λ h=>?_⟩;unfold mJ at h;split at h
 ·exact⟨_,rfl,h⟩
 ·exact h.elim
def sj(t:TE):TT:=λ σ H Q=>t σ H (mJ Q)
def HW(t:TE)(σ:St)(H:Hp)(Q:Bool->Hp->Prop):sj t σ H Q=t σ H (mJ Q):=rfl
def jZ(t:TE):Cb t=sj t:=by
 funext σ H Q
 show t σ H (Kt Q)=t σ H (mJ Q)
 rw [En]
def Ay(t:TE):tB t=sj t:=jZ t
def xE(tb:TE)(σ:St)(Q:VK):VK:=λ x H=>match x with
 | .bl c=>if c=true then tb σ H Q else Q (.bl false) H
 | _=>False
def IK(tb:TE)(σ:St)(Q:VK)(c:Bool)(H:Hp):xE tb σ Q (.bl c) H=(if c=true then tb σ H Q else Q (.bl false) H):=rfl
def Gj(ta tb:TE):TE:=λ σ H Q=>ta σ H (xE tb σ Q)
def Ig(ta tb:TE)(σ:St)(H:Hp)(Q:VK):Gj ta tb σ H Q=ta σ H (xE tb σ Q):=rfl
def Dx(ta tb:TE):Kb ta tb=Gj ta tb:=by
 funext σ H Q
 show ta σ H (O0 tb σ Q)=ta σ H (xE tb σ Q)
 congr 1;funext x H;refine propext ⟨λ ⟨k,e,q⟩=>by subst e;exact q,λ h=>?_⟩;unfold xE at h;split at h
 ·exact⟨_,rfl,h⟩
 ·exact h.elim
def xB(Q:VK):VK:=λ x H=>match x with
 | .bl c=>Q (.bl (!c)) H
 | _=>False
def Iw(Q:VK)(c:Bool)(H:Hp):xB Q (.bl c) H=Q (.bl (!c)) H:=rfl
def Gf(ta:TE):TE:=λ σ H Q=>ta σ H (xB Q)
def HY(ta:TE)(σ:St)(H:Hp)(Q:VK):Gf ta σ H Q=ta σ H (xB Q):=rfl
def Dw(ta:TE):J6 ta=Gf ta:=by
 funext σ H Q
 show ta σ H (OW Q)=ta σ H (xB Q)
 congr 1;funext x H;refine propext ⟨λ ⟨k,e,q⟩=>by subst e;exact q,λ h=>?_⟩;unfold xB at h;split at h
 ·exact⟨_,rfl,h⟩
 ·exact h.elim
def vR(r':R2)(tc:TE)(σ:St)(y:V)(Q:VK):VK:=λ z H=>match z with
 | .bl k=>if k=true then tc σ H (Ni r' y Q) else Q (.bl false) H
 | _=>False
def IH(r':R2)(tc:TE)(σ:St)(y:V)(Q:VK)(k:Bool)(H:Hp):vR r' tc σ y Q (.bl k) H=(if k=true then tc σ H (Ni r' y Q) else Q (.bl false) H):=rfl
def Jh(r':R2)(tc:TE)(σ:St)(y:V)(Q:VK):NV r' tc σ y Q=vR r' tc σ y Q:=by
 funext z H;refine propext ⟨λ ⟨k,e,q⟩=>by subst e;exact q,λ h=>?_⟩;unfold vR at h;split at h
 ·exact⟨_,rfl,h⟩
 ·exact h.elim
def Ck(r r':R2)(tc:TE)(σ:St)(x:V)(Q:VK):VK:=λ y H=>r x y H (vR r' tc σ y Q)
def II(r r':R2)(tc:TE)(σ:St)(x y:V)(Q:VK)(H:Hp):Ck r r' tc σ x Q y H=r x y H (vR r' tc σ y Q):=rfl
def Cm(r r':R2)(tb tc:TE)(σ:St)(Q:VK):VK:=λ x H=>tb σ H (Ck r r' tc σ x Q)
def IJ(r r':R2)(tb tc:TE)(σ:St)(Q:VK)(x:V)(H:Hp):Cm r r' tb tc σ Q x H=tb σ H (Ck r r' tc σ x Q):=rfl
def uD(r r':R2)(ta tb tc:TE):TE:=λ σ H Q=>ta σ H (Cm r r' tb tc σ Q)
def DG(r r':R2)(ta tb tc:TE)(σ:St)(H:Hp)(Q:VK):uD r r' ta tb tc σ H Q=ta σ H (Cm r r' tb tc σ Q):=rfl
def qB(r r':R2)(ta tb tc:TE):xH r r' ta tb tc=uD r r' ta tb tc:=by
 funext σ H Q
 show ta σ H (Qu r r' tb tc σ Q)=ta σ H (Cm r r' tb tc σ Q)
 congr 1;funext x H1
 show tb σ H1 (PN r r' tc σ x Q)=tb σ H1 (Ck r r' tc σ x Q)
 congr 1;funext y H2
 show r x y H2 (NV r' tc σ y Q)=r x y H2 (vR r' tc σ y Q)
 rw [Jh]
def Cp:TGs:=λ vs σ H Q=>match vs with
 | []=>Q σ H
 | _=>False
def IS(σ:St)(H:Hp)(Q:St->Hp->Prop):Cp [] σ H Q=Q σ H:=rfl
def Jn:P5=Cp:=by
 funext vs σ H Q;refine propext ⟨λ ⟨e,q⟩=>by subst e;exact q,λ h=>?_⟩;unfold Cp at h;split at h
 ·exact⟨rfl,h⟩
 ·exact h.elim
def uG(t:TG)(u:TGs):TGs:=λ vs σ H Q=>match vs with
 | v::r=>t v σ H (kGs u r Q)
 | _=>False
def DR(t:TG)(u:TGs)(v:V)(r:List V)(σ:St)(H:Hp)(Q:St->Hp->Prop):uG t u (v::r) σ H Q=t v σ H (kGs u r Q):=rfl
def Ez(t:TG)(u:TGs):KD t u=uG t u:=by
 funext vs σ H Q;refine propext ⟨λ ⟨v,r,e,q⟩=>by subst e;exact q,λ h=>?_⟩;unfold uG at h;split at h
 ·exact⟨_,_,rfl,h⟩
 ·exact h.elim
def lX{α0:Type}{f:α0->List V}{B:α0->Prop}(inj:∀ a a',f a=f a'->a=a')(a:α0):(∃ a',f a=f a'/\B a')=B a:=propext ⟨λ ⟨a',e,q⟩=>by obtain rfl:=inj _ _ e;exact q,λ q=>⟨a,rfl,q⟩⟩
def lU{α0:Type}{f:α0->List V}{B:α0->Prop}{vs:List V}{n:Nat}(h:∃ a,vs=f a/\B a)(l:∀ a,(f a).length=n):vs.length=n:=by
 obtain⟨_,rfl,_⟩:=h;exact l _
def gN{α0 α1:Type}{f:α0->α1->List V}{B:α0->α1->Prop}(inj:∀ a b a' b',f a b=f a' b'->a=a'/\b=b')(a:α0)(b:α1):(∃ a' b',f a b=f a' b'/\B a' b')=B a b:=propext ⟨λ ⟨a',b',e,q⟩=>by obtain⟨rfl,rfl⟩:=inj _ _ _ _ e;exact q,λ q=>⟨a,b,rfl,q⟩⟩
def gO{α0 α1:Type}{f:α0->α1->List V}{B:α0->α1->Prop}{vs:List V}{n:Nat}(h:∃ a b,vs=f a b/\B a b)(l:∀ a b,(f a b).length=n):vs.length=n:=by
 obtain⟨_,_,rfl,_⟩:=h;exact l _ _
def B2{α0 α1 α2:Type}{f:α0->α1->α2->List V}{B:α0->α1->α2->Prop}(inj:∀ a b c a' b' c',f a b c=f a' b' c'->a=a'/\b=b'/\c=c')(a:α0)(b:α1)(c:α2):(∃ a' b' c',f a b c=f a' b' c'/\B a' b' c')=B a b c:=propext ⟨λ ⟨a',b',c',e,q⟩=>by obtain⟨rfl,rfl,rfl⟩:=inj _ _ _ _ _ _ e;exact q,λ q=>⟨a,b,c,rfl,q⟩⟩
def B3{α0 α1 α2:Type}{f:α0->α1->α2->List V}{B:α0->α1->α2->Prop}{vs:List V}{n:Nat}(h:∃ a b c,vs=f a b c/\B a b c)(l:∀ a b c,(f a b c).length=n):vs.length=n:=by
 obtain⟨_,_,_,rfl,_⟩:=h;exact l _ _ _
def M3{α0 α1 α2 α3:Type}{f:α0->α1->α2->α3->List V}{B:α0->α1->α2->α3->Prop}(inj:∀ a b c d a' b' c' d',f a b c d=f a' b' c' d'->a=a'/\b=b'/\c=c'/\d=d')(a:α0)(b:α1)(c:α2)(d:α3):(∃ a' b' c' d',f a b c d=f a' b' c' d'/\B a' b' c' d')=B a b c d:=propext ⟨λ ⟨a',b',c',d',e,q⟩=>by obtain⟨rfl,rfl,rfl,rfl⟩:=inj _ _ _ _ _ _ _ _ e;exact q,λ q=>⟨a,b,c,d,rfl,q⟩⟩
def M4{α0 α1 α2 α3:Type}{f:α0->α1->α2->α3->List V}{B:α0->α1->α2->α3->Prop}{vs:List V}{n:Nat}(h:∃ a b c d,vs=f a b c d/\B a b c d)(l:∀ a b c d,(f a b c d).length=n):vs.length=n:=by
 obtain⟨_,_,_,_,rfl,_⟩:=h;exact l _ _ _ _
def Qr{P:List Value->Prop}(h:P []):∀ us:List Value,us.length=0->P us:=λ us e=>by
 cases us with
 | nil=>exact h
 | cons a r=>cases e
def lV{P:List Value->Prop}(h:∀ a,P [a]):∀ us:List Value,us.length=1->P us:=λ us e=>by
 cases us with
 | nil=>cases e
 | cons x r=>exact Qr (P:=λ r=>P (x::r)) (h x) r (UT e)
def gP{P:List Value->Prop}(h:∀ a b,P [a,b]):∀ us:List Value,us.length=2->P us:=λ us e=>by
 cases us with
 | nil=>cases e
 | cons x r=>exact lV (P:=λ r=>P (x::r)) (h x) r (UT e)
def uv{P:List Value->Prop}(h:∀ a b c,P [a,b,c]):∀ us:List Value,us.length=3->P us:=λ us e=>by
 cases us with
 | nil=>cases e
 | cons x r=>exact gP (P:=λ r=>P (x::r)) (h x) r (UT e)
def M8{P:List Value->Prop}(h:∀ a b c d,P [a,b,c,d]):∀ us:List Value,us.length=4->P us:=λ us e=>by
 cases us with
 | nil=>cases e
 | cons x r=>exact uv (P:=λ r=>P (x::r)) (h x) r (UT e)
section
variable {X:Cx}
def pvN(i:Nat){x:Str}{pos:Pos}(hN:X.N[i]? = some x:=by rfl)(hv:Vis X.env.scope x:=by first|exact Or.inl rfl|exact Or.inr (Or.inl rfl)|exact Or.inr (Or.inr rfl))(hd:(x == ("__debug__":Str))=false:=by decide)
  (aS:(x == ("__classdict__":Str))=false:=by decide):PE X (.Name x pos) (tV i):=by rw [←J3];exact pv i hN hv hd aS
def bG:OpR X (binaryOp .Add) (nI0 λ i j=>.int (i+j)):=by rw [←mG];exact uC
def eT:OpR X (binaryOp .Sub) (nI0 λ i j=>.int (i - j)):=by rw [←mG];exact Lb
def vN:OpR X (compareOp .Lt) (nI0 λ i j=>.bl (decide (i < j))):=by rw [←mG];exact Kj
def sf:OpR X (compareOp .LtE) (nI0 λ i j=>.bl (decide (i<=j))):=by rw [←mG];exact Oe
def si:OpR X (compareOp .Gt) (nI0 λ i j=>.bl (decide (j < i))):=by rw [←mG];exact Kk
def Kl:OpR X (compareOp .GtE) (nI0 λ i j=>.bl (decide (j<=i))):=by rw [←mG];exact Of
def cP:OpR X (binaryOp .Mult) (nI kd λ i j=>.int (i * j)):=by rw [←xA];exact jG
def yP:OpR X (binaryOp .Mult) (nI GB λ i j=>.int (i * j)):=by rw [←xA];exact Hz
def kn:OpR X (binaryOp .FloorDiv) (nI N7 λ i j=>.int (i / j)):=by rw [←xA];exact HA
def pY:OpR X (binaryOp .Mod) (nI (λ _ j=>0 < j) λ i j=>.int (i % j)):=by rw [←xA];exact kg
def Fn:OpR X (binaryOp .Pow) (nI N6 λ i j=>.int (i ^ j.toNat)):=by rw [←xA];exact Le
def fZ:UnR X (unaryOp .USub) (nU λ i=>.int (-i)):=by rw [←Om];exact KN
variable {a b c d e:Expr}{ta tb tc td t:TE}{pos:Pos}
def Df{op:CmpOp}{r:R2}(ho:OpR X (compareOp op) r)(ha:PE X a ta)(hb:PE X b tb)(hm:behindInMarks op b=false):PT X (.Compare a [op] [b] pos) (sj (tOp r ta tb)):=by rw [←jZ];exact sP ho ha hb hm
def Hf(h:PE X e t)(he:∀ whole,isTrue e X.env whole=(do let v ←whole;standAt e.pos;holding [v] (truthy v)):=by intro _;rfl):PT X e (sj t):=by rw [←Ay];exact K0 h he
def qu{op aS:CmpOp}{r r':R2}(ho:OpR X (compareOp op) r)(aX:OpR X (compareOp aS) r')(ha:PE X a ta)(hb:PE X b tb)(hc:PE X c tc)
  (hm:lastMarks [op,aS] [b,c]=false:=by with_unfolding_all rfl):PE X (.Compare a [op,aS] [b,c] pos) (uD r r' ta tb tc):=by rw [←qB];exact Dr ho aX ha hb hc hm
def Ah{op aS:CmpOp}{r r':R2}(ho:OpR X (compareOp op) r)(aX:OpR X (compareOp aS) r')(ha:PE X a ta)(hb:PE X b tb)(hc:PE X c tc)
  (hm:lastMarks [op,aS] [b,c]=false:=by with_unfolding_all rfl):PT X (.Compare a [op,aS] [b,c] pos) (sj (uD r r' ta tb tc)):=by rw [←jZ,←qB];exact Dg ho aX ha hb hc hm
variable {vL:List Expr}
def Ht(ha:PE X a ta)(hb:PE X (.BoolOp .And (b::vL) pos) tb):PE X (.BoolOp .And (a::b::vL) pos) (Gj ta tb):=by rw [←Dx];exact K9 ha hb
def yL(ha:PE X a ta):PE X (.UnaryOp .Not a pos) (Gf ta):=by rw [←Dw];exact K8 ha
def aL:PGs X [] Cp:=by rw [←Jn];exact Hm
def Am{e:Expr}{es:List Expr}{t:TG}{u:TGs}(h1:PG X e t)(h2:PGs X es u)
  (hs:(assignEach (e::es) X.env).map (·.2)=assign e X.env::(assignEach es X.env).map (·.2):=by rfl):PGs X (e::es) (uG t u):=by rw [←Ez];exact Di h1 h2 hs
end
def uF{c:TT}{t u:TS}{nx:St->Hp->Prop}{rt:VK}{bk ct:St->Hp->Prop}{σ:St}{H:Hp}(R:St->Hp->Prop)(h:∀ aS:St->Hp->Prop,(∀ σ' H',R σ' H'->aS σ' H')->M0 c t u ⟨aS,rt,bk,ct⟩ σ H)(k:∀ σ' H',R σ' H'->nx σ' H'):M0 c t u ⟨nx,rt,bk,ct⟩ σ H:=h nx k
def Dm{X:Cx}{e:Expr}{f:Str}{pos:Pos}{ta:TE}{K:W.Frag}(hK:X.K=K)(he:PE X e ta)(hb:attributeBase e f X.env (eval e X.env)=eval e X.env):PE X (.Attribute e f pos) (NA K ta f):=by subst hK;exact yM he hb
def Kp{i:Nat}:ME (tV i):=by rw [←J3];exact yi
def uX{t:TE}(h:ME t):MT (sj t):=by rw [←jZ];exact sS h
def NG(k:Int)(H:Hp)(Q:VK):List V->Prop:=λ xs=>0<=k/\k<=4096/\xs.length * k.toNat<=sizeLine/\jb (.lst (List.replicate k.toNat xs).flatten) H Q
def L1(k:Int)(H:Hp)(Q:VK)(xs:List V):NG k H Q xs=(0<=k/\k<=4096/\xs.length * k.toNat<=sizeLine/\jb (.lst (List.replicate k.toNat xs).flatten) H Q):=rfl
def Nz:R2:=λ x y H Q=>match x,y with
 | .ref l,.int k=>aH (az H l) (NG k H Q)
 | _,_=>False
def LR(l:Addr)(k:Int)(H:Hp)(Q:VK):Nz (.ref l) (.int k) H Q=aH (az H l) (NG k H Q):=rfl
def sR{X:Cx}:OpR X (binaryOp .Mult) Nz:=Lc.mono λ x y H Q h=>by
 unfold Nz at h;split at h
 ·rename_i l k;obtain⟨xs,e,h0,h1,h2,q⟩:=ai h;exact⟨l,k,xs,rfl,rfl,bp e,by omega,by omega,h2,q.to⟩
 ·exact h.elim
def yj(l:Addr)(i:Int)(xs:List V)(H:Hp)(Q:VK):V->Prop:=λ y=>Q y (upd H l (.lst (xs.eraseIdx i.toNat)))
def DI(l:Addr)(i:Int)(xs:List V)(H:Hp)(Q:VK)(y:V):yj l i xs H Q y=Q y (upd H l (.lst (xs.eraseIdx i.toNat))):=rfl
def Gr(l:Addr)(i:Int)(H:Hp)(Q:VK):List V->Prop:=λ xs=>0<=i/\i < xs.length/\xs.length<=4096/\aH (xs[i.toNat]?) (yj l i xs H Q)
def Iu(l:Addr)(i:Int)(H:Hp)(Q:VK)(xs:List V):Gr l i H Q xs=(0<=i/\i < xs.length/\xs.length<=4096/\aH (xs[i.toNat]?) (yj l i xs H Q)):=rfl
def yh:V->List V->Hp->VK->Prop:=λ x vs H Q=>match x,vs with
 | .ref l,[.int i]=>aH (az H l) (Gr l i H Q)
 | _,_=>False
def DF(l:Addr)(i:Int)(H:Hp)(Q:VK):yh (.ref l) [.int i] H Q=aH (az H l) (Gr l i H Q):=rfl
def Az{X:Cx}:MtM X "list.pop" yh:=λ pins s σ H x vs v us Q I rx rv h=>Dy pins s σ H x vs v us Q I rx rv (by
 unfold yh at h;split at h
 ·rename_i l i;obtain⟨xs,e,h0,h1,h2,q⟩:=ai h;obtain⟨y,hy,q⟩:=ai q;exact⟨l,xs,i,i.toNat,y,rfl,rfl,bp e,by omega,by omega,seqIndex_of h0 h1,hy,q⟩
 ·exact h.elim)
def yR{t:TA}(h:MA t):ME (Nv t):=λ σ H Q Q' m q=>h σ H _ _ (λ xs H1 ⟨l,n⟩=>⟨l,λ p H' a b c=>m _ _ (n p H' a b c)⟩) q
def NL(neg:Bool)(x:V)(H:Hp)(Q:VK):List V->Prop:=λ xs=>iD x=true/\xs.all iD=true/\Q (.bl (if neg=true then !inV x xs else inV x xs)) H
def L9(neg:Bool)(x:V)(H:Hp)(Q:VK)(xs:List V):NL neg x H Q xs=(iD x=true/\xs.all iD=true/\Q (.bl (if neg=true then !inV x xs else inV x xs)) H):=rfl
def nIn(neg:Bool):R2:=λ x y H Q=>match y with
 | .ref p=>aH (dh H p) (NL neg x H Q)
 | _=>False
def OD(neg:Bool)(x:V)(p:Addr)(H:Hp)(Q:VK):nIn neg x (.ref p) H Q=aH (dh H p) (NL neg x H Q):=rfl
def Fg{K:W.Frag}{neg:Bool}{x y:V}{H:Hp}{Q:VK}(h:nIn neg x y H Q):rIn K neg x y H Q:=by
 unfold nIn at h;split at h
 ·rename_i p;obtain⟨xs,e,h1,h2,q⟩:=ai h;exact⟨p,xs,rfl,iQ e,h1,h2,q⟩
 ·exact h.elim
def Lg{X:Cx}:OpR X (compareOp .In) (nIn false):=Au.mono λ x y H Q h=>Fg h
def qy{X:Cx}:OpR X (compareOp .NotIn) (nIn true):=rA.mono λ x y H Q h=>Fg h
def Na(lo hi:Option Int)(H:Hp)(Q:VK):List V->Prop:=λ xs=>¬ (HT.sIx xs.length 0 lo=0/\HT.sIx xs.length xs.length hi=xs.length)/\jb (.tup (mB xs lo hi)) H Q
def Ny:V->Option Int->Option Int->Hp->VK->Prop:=λ x lo hi H Q=>match x with
 | .ref a=>aH (ke H a) (Na lo hi H Q)
 | _=>False
def LQ(a:Addr)(lo hi:Option Int)(H:Hp)(Q:VK):Ny (.ref a) lo hi H Q=aH (ke H a) (Na lo hi H Q):=rfl
def EI(xs:List V)(z:Int)(h:0<=z):mB xs (some z) none=xs.drop z.toNat:=by
 unfold mB;obtain⟨n,rfl⟩:=Int.eq_ofNat_of_zero_le h;rw [HT.sIx_none,HT.sIx_nat]
 show _=xs.drop n
 rcases UU n xs.length with q|q
 ·rw [Uk q];exact Sa (by rw [SD];omega)
 ·rw [Ua q,SA (QK _),SA q,List.take_nil]
def Kc{X:Cx}:SlR X Ny:=KU.mono λ x lo hi H Q h=>by
 unfold Ny at h;split at h
 ·rename_i a;obtain⟨xs,e,w,q⟩:=ai h;exact⟨a,xs,rfl,SqT.of (uA e),w,q.to⟩
 ·exact h.elim
def Nq(ns:List Int):List Int:=firstMet (λ i=>ns.getD i 0) ns.length
def JV(ns:List Int):Nat:=(Nq ns).length
def Np(ns:List Int):Int->Bool:=λ k=>(Nq ns).any λ x=>x == k
def Po:List V->Hp->VK->Prop:=λ vs H Q=>∃ p ns,vs=[.ref p]/\H p=some (.lst (ns.map V.int))/\ns.length<=4000/\jb (.set (Np ns) (JV ns)) H Q
def GL{p:Addr}{ns:List Int}{H:Hp}{Q:VK}(e:H p=some (.lst (ns.map V.int)))(hl:ns.length<=4000)(q:jb (.set (Np ns) (JV ns)) H Q):Po [.ref p] H Q:=⟨p,ns,rfl,e,hl,q⟩
def Ki:List V->Hp->VK->Prop:=λ vs H Q=>∃ p S n,vs=[.ref p]/\H p=some (.set S n)/\Q (.int n) H
def CG{p:Addr}{S:Int->Bool}{n:Nat}{H:Hp}{Q:VK}(e:H p=some (.set S n))(q:Q (.int n) H):Ki [.ref p] H Q:=⟨p,S,n,rfl,e,q⟩
section
variable {X:Cx}
def BI(hc:X.calm=true):cn X (.type "set") Po:=by
 intro pins s σ H vs us Q I r h;obtain⟨p,ns,rfl,e,hl,q⟩:=h
 cases r with
 | cons r rr=>
  cases rr;cases r;obtain⟨its,r',pl,hz⟩:=I.list (SqL.of e);have hlen:=r'.length;rw [length_map] at hlen;have hI:IntsAre its ns:=mW r';refine call_set_list (ns:=ns) (I.ok.hd hc) pl.isList (by simpa using hI) (by rw [size_toArray];unfold scanBound;omega) λ h' tk aS kp=>?_;have es:its.toArray.size=ns.length:=by rw [size_toArray,hlen]
  rw [es] at aS;have fr:=I.hok.fresh (QK _);exact⟨.ref s.heap.objs.size,_,I.laid (t':=tk) (h':=h') (o:=.set (Np ns) (JV ns)) (λ b u hb=>kp b u (QH hb) hb) (QK _) aS,rfl,q _ _ fr (Ext.new fr) ar⟩
def xh:cn X (.builtin "len") Ki:=by
 intro pins s σ H vs us Q I r h;obtain⟨p,S,n,rfl,e,q⟩:=h;obtain⟨u,rfl,rx⟩:=xw r;cases rx;have hn:=mH;obtain⟨o,es,ep,t,h1,h2,h3,h4,h5,h6,h7,h8⟩:=I.hok _ _ e;unfold scanBound at h6;exact call_len_set h1 h2 h3 h7 (by omega) ⟨.int n,H,I.tok _,⟨s.toks+1,by rw [h8]⟩,q⟩
end
def tm(σ:List Int)(v:Int):(step_dedup σ v).length<=σ.length+1:=by rw [step_length];split<;>omega
def yX:∀ (ns σ:List Int),(List.foldl step_dedup σ ns).length<=σ.length+ns.length
 | [],σ=>QK _
 | v::ns,σ=>by
  have h1:=yX ns (step_dedup σ v);have h2:=tm σ v;simp only [Sq,Rr];omega
def yY:∀ (ns σ:List Int),(List.foldl step_dedup σ ns).length=σ.length+ns.length ↔ ns.Nodup/\∀ x∈ns,x ∉ σ
 | [],σ=>⟨λ _=>⟨Ta,λ _ h=>absurd h QR⟩,λ _=>rfl⟩
 | v::ns,σ=>by
  have ih:=yY ns (step_dedup σ v);have hl:=yX ns (step_dedup σ v);simp only [Sq,Rr,Sb,Q1,forall_eq_or_imp]
  by_cases hv:v∈σ
  ·have e:step_dedup σ v=σ:=by unfold step_dedup;rw [if_pos (by rw [List.any_eq_true];exact⟨v,hv,by simp⟩)]
   rw [e] at hl ⊢;exact⟨λ h=>absurd h (by omega),λ h=>absurd hv h.2.1⟩
  ·have e:step_dedup σ v=σ++[v]:=by
    unfold step_dedup;rw [if_neg];intro h;rw [List.any_eq_true] at h;obtain⟨x,hx,he⟩:=h;exact hv ((of_decide_eq_true (by simpa using he):x=v) ▸ hx)
   rw [e] at ih ⊢;rw [QX,RN] at ih;constructor
   ·intro h;obtain⟨a,b⟩:=ih.mp (by omega);exact⟨⟨λ hm=>b v hm (Q8 _ (QF.mpr rfl)),a⟩,hv,λ x hx hs=>b x hx (QZ _ hs)⟩
   ·rintro ⟨⟨a,b⟩,_,c⟩
    have:=ih.mpr ⟨b,λ x hx hs=>by
     rcases Q6.mp hs with h|h
     ·exact c x hx h
     ·exact a (QF.mp h ▸ hx)⟩
    omega
def w5(ns:List Int):(List.range ns.length).map (λ i=>ns.getD i 0)=ns:=by
 refine T2 (by rw [QE,Rb]) λ i h1 h2=>?_;rw [List.getElem_map,UG,Rh,QB h2];rfl
def Hc(ns:List Int):JV ns=ns.length ↔ ns.Nodup:=by
 unfold JV Nq firstMet;rw [w5];have:=yY ns [];simp only [List.length_nil,Nat.zero_add] at this;rw [this];exact⟨λ h=>h.1,λ h=>⟨h,λ _ _=>not_mem_nil⟩⟩
section
variable {prog:Program}{w:World}{A:Around}{E:Value->Shared->Prop}{s:Shared}
end
section
variable {X:Cx}
end
section
variable {k:Nat}{g:TG}{tt:TT}{te:TE}{σ:St}{Q:VK}{H:Hp}
end
structure IsC(K:W.Frag)(C:Addr):Prop where
 cl:Cls K C
 fc:W.findIn K (.ref C) "__class__"=some (some (.builtin "object.__class__"))
 ocs:W.specialIn K (.builtin "object.__class__") "__get__"=some (some (.builtin "getset_descriptor.__get__"))
 oct:W.takesIn K (.builtin "object.__class__")=some true
 mo:W.mroIn K C (.type "object")=some true
section
variable {X:Cx}
end
section
variable {prog:Program}{w:World}{A:Around}{E:Value->Shared->Prop}{K:Frag}{x C dx:Addr}{s:Shared}{name:Str}{v:Value}
end
section
variable {X:Cx}{e o value:Expr}{ta tv:TE}{f:Str}{pos pos':Pos}
end
open Sem (wp)
open AutoSeq1 (wpAny_loadPart')
section
variable {X:Cx}
end
def KI(o:Obj):Prop:=∃ vs,o.data=.fields vs/\vs[2]? = some .none
section
variable {prog:Program}{w:World}{A:Around}{E:Value->Shared->Prop}{s:Shared}
end
def Qa(X:Cx):Prop:=∃ (e:Addr) (oe:Obj) (u:HO),X.A.handled=some (.ref e)/\X.H₀ e=some (.frz oe u)/\KI oe
structure Qz(P:Program)(w:World)(K:W.Frag)(tg:Expr)(J:It)(fp:List Addr)(it:Addr)(tn:Nat->Heap->Prop):Prop where
 mem:it∈fp
 obj:∀ i h,tn i h->∀ b∈fp,∃ o,h.get? b=some o/\∀ v,o.data ≠ .cell v
 keep:∀ i h h',tn i h->(∀ b∈fp,∀ o,h.get? b=some o->h'.get? b=some o)->tn i h'
 item:∀ (X:Cx),X.prog=P->X.w=w->X.K=K->Qa X->∀ (i:Nat) (pins:List (Addr × Obj)) (s:Shared) (σ:St) (H:Hp) (E:Value->Shared->Prop),Inv X pins σ H s->(∀ b∈fp,r0 X pins H b)->tn i s.heap->J.go i H →
  wpAny (model P w) X.A (pyNext (.ref it)) (λ r s1=>∃ u,r=some u /\
   wpAny (model P w) X.A (letOwnedTupleGo tg (.ref it) u) (λ _ s2=>∃ x H',Inv X pins σ H' s2/\bF x u/\J.yld i H x H'/\tn (i+1) s2.heap/\∀ b∈fp,H' b=none) E s1) E s
 done:∀ (X:Cx),X.prog=P->X.w=w->X.K=K->Qa X->∀ (i:Nat) (pins:List (Addr × Obj)) (s:Shared) (σ:St) (H:Hp) (E:Value->Shared->Prop),Inv X pins σ H s->(∀ b∈fp,r0 X pins H b)->tn i s.heap->J.stop i H →
  wpAny (model P w) X.A (pyNext (.ref it)) (λ r s1=>r=none/\Inv X pins σ H s1) E s
section
variable {X:Cx}{tg:Expr}
end
structure O6(k:Nat)(e:Addr)(A:Around):Prop where
 hd:A.handled=some (.ref e)
 dp:A.depth+3 * k+5 < recursionLimit
 un:A.units+16 * k+200 < cLine
structure QA(P:Program)(w:World)(K:W.Frag)(mg:Str->Option Value)(base:Heap)(CX:CXT)(k:Nat)(f:Addr)(fd:FuncData)(ps:List Str)(sp:Sp):Prop where
 len:∀ vs H Q E,sp vs H Q E->vs.length=ps.length
 run:∀ (A:Around) (outer:List Env) (s:Shared) (H:Hp) (args:Args) (us:List Value) (vs:List V) (Q:VK) (E:XK) (e:Addr) (oe:Obj) (u:HO),O6 k e A->H e=some (.frz oe u)->KI oe->E5 P w K mg base A outer s H->BindsTo s fd args (ps.zip us)->aY vs us->sp vs H Q E →
  codeAny (model P w) A (.call (.ref f) args) (CR CX outer P w H s Q E) s
section
variable {X:Cx}
end
abbrev cR(h:Heap)(T:Addr)(a b c:Value):Prop:=h.get? T=some { cls:=.type "tuple",data:=.seq #[a,b,c] }
section
variable {prog:Program}{w:World}{A:Around}{E:Value->Shared->Prop}{s:Shared}
def cI{T:Addr}{a b c x:Value}{k:Nat}{Q:Unit->Shared->Prop}(hT:cR s.heap T a b c)
  (h:∀ h',h'.get? T=some { cls:=.type "tuple",data:=.seq ((#[a,b,c]:Array Value).setIfInBounds k x) }->Heap.SameBut T s.heap h'->Q () { s with heap:=h' }) :
  wpAny (model prog w) A (updateSeq T (·.setIfInBounds k x)) Q E s:=by
 refine R4 hT rfl (h _ ?_ (U3 ..));rw [Rt _ hT rfl];simp [Obj.mapSeq]
structure mK(z TI TO i j l:Addr)(f g e:List Addr):Prop where
 ti:TI ≠ z/\TI ≠ TO/\TI ≠ i/\TI ≠ j/\TI ≠ l
 zt:z ≠ TO
 zf:z ∉ f
 zg:z ∉ g
 ze:z ∉ e
 tf:TO ∉ f
 tg:TO ∉ g
 te:TO ∉ e
 ig:i ∉ g
 ie:i ∉ e
 jf:j ∉ f
 je:j ∉ e
 lf:l ∉ f
 lg:l ∉ g
variable {z TI TO i j l:Addr}{f g e:List Addr}{ti tj tl:Nat->Heap->Prop}{vi vj vl:Nat->Option Value}{k m n:Nat}{x y u a b c:Value}
def zR(S:Src prog w i f ti vi)(T:Src prog w j g tj vj)(U:Src prog w l e tl vl)(D:mK z TI TO i j l f g e){Q:Value->Shared->Prop}
  (hz:IsZip s.heap z TI TO .none) (a7:cR s.heap TI (.ref i) (.ref j) (.ref l)) (a8:cR s.heap TO a b c) (hi:ti k s.heap) (hj:tj m s.heap) (hl:tl n s.heap) (hx:vi k=some x) (hy:vj m=some y) (hu:vl n=some u)
  (hQ:∀ h',IsZip h' z TI TO (rawInt s.heap.objs.size)->cR h' TO x y u->ti (k+1) h'->tj (m+1) h'->tl (n+1) h'->cR h' s.heap.objs.size x y u->h'.objs.size=s.heap.objs.size+1->(∀ c o,c ∉ [z,TO,i,j,l]->s.heap.get? c=some o->h'.get? c=some o)->Q (.ref s.heap.objs.size) { s with heap:=h' }) :
  wpAny (model prog w) A (Builtin.«zip.__next__» ⟨[.ref z],[]⟩) (λ fin s'=>∃ v,fin=.done (.ret v)/\Q v s') E s:=by
 have iz:i ≠ z:=bg S.mem D.zf;have jz:j ≠ z:=bg T.mem D.zg;have lz:l ≠ z:=bg U.mem D.ze;have a9:i ≠ TO:=bg S.mem D.tf;have bt:j ≠ TO:=bg T.mem D.tg;have bS:l ≠ TO:=bg U.mem D.te;refine wpAny_bind (m:=field (.ref z) 2) (wpAny_field hz rfl (x:=.bool false) rfl ?_);refine wpAny_bind (m:=field (.ref z) 3) (wpAny_field hz rfl (x:=.ref TI) rfl (wpAny_bind (wpAny_seqItems a7 rfl ?_)));refine wpAny_bind (m:=Builtin.SmallTypes.ownedTupleIsFree (.ref z)) ?_;unfold Builtin.SmallTypes.ownedTupleIsFree;refine wpAny_bind (wpAny_field hz rfl (x:=.none) rfl (wpAny_pure ?_));simp only [if_true];refine wpAny_bind (wpAny_rule (wpAny_bind (wpAny_field hz rfl (x:=.ref TO) rfl (wpAny_bind (wpAny_setField_rec hz (by simp) λ q1 z1 s1=>?_)))));replace z1:IsZip q1 z TI TO .ellipsis:=z1;refine wpAny_bind ?_;simp only [List.zipIdx_cons,List.zipIdx_nil,forIn_cons,forIn_nil];refine wpAny_bind (wpAny_bind (wpAny_onRaise (wpAny_bind (m:=Builtin.SmallTypes.nextOf (.ref i)) (S.item _ k _ x _ _ (S.but hi s1.extBut D.zf) hx λ q2 i2 s2=>wpAny_pure ?_))));have o2:cR q2 TO a b c:=s2.extBut _ _ a9.symm (s1.extBut _ _ D.zt.symm a8);refine wpAny_bind (wpAny_seqItems o2 rfl (wpAny_bind (cI o2 λ q3 o3 s3=>wpAny_bind (wpAny_letGo (wpAny_pure ?_)))));replace o3:cR q3 TO x b c:=o3;have j3:tj m q3:=T.but (T.but (T.but hj s1.extBut D.zg) s2.extBut D.ig) s3.extBut D.tg;refine wpAny_bind (wpAny_bind (wpAny_onRaise (wpAny_bind (m:=Builtin.SmallTypes.nextOf (.ref j)) (T.item _ m _ y _ _ j3 hy λ q4 j4 s4=>wpAny_pure ?_))));have o4:cR q4 TO x b c:=s4.extBut _ _ bt.symm o3;refine wpAny_bind (wpAny_seqItems o4 rfl (wpAny_bind (cI o4 λ q5 o5 s5=>wpAny_bind (wpAny_letGo (wpAny_pure ?_)))));replace o5:cR q5 TO x y c:=o5;have l5:tl n q5:=U.but (U.but (U.but (U.but (U.but hl s1.extBut D.ze) s2.extBut D.ie) s3.extBut D.te) s4.extBut D.je) s5.extBut D.te;refine wpAny_bind (wpAny_bind (wpAny_onRaise (wpAny_bind (m:=Builtin.SmallTypes.nextOf (.ref l)) (U.item _ n _ u _ _ l5 hu λ q6 l6 s6=>wpAny_pure ?_))));have o6:cR q6 TO x y c:=s6.extBut _ _ bS.symm o5;refine wpAny_bind (wpAny_seqItems o6 rfl (wpAny_bind (cI o6 λ q7 o7 s7=>wpAny_bind (wpAny_letGo (wpAny_pure (wpAny_pure ?_))))));replace o7:cR q7 TO x y u:=o7;refine wpAny_bind (wpAny_seqItems o7 rfl (wpAny_bind (wpAny_newTuple ?_)));have sz:q7.objs.size=s.heap.objs.size:=by rw [s7.1,s6.1,s5.1,s4.1,s3.1,s2.1,s1.1]
 have z7:IsZip q7 z TI TO .ellipsis:=s7.extBut _ _ D.zt (s6.extBut _ _ lz.symm (s5.extBut _ _ D.zt (s4.extBut _ _ jz.symm (s3.extBut _ _ D.zt (s2.extBut _ _ iz.symm z1)))))
 have k7:∀ c o,c ∉ [z,TO,i,j,l]->s.heap.get? c=some o->q7.get? c=some o:=λ c o hc e=>by
  simp only [Q1,QR,Rm,Th] at hc;exact s7.extBut _ _ hc.2.1 (s6.extBut _ _ hc.2.2.2.2 (s5.extBut _ _ hc.2.1 (s4.extBut _ _ hc.2.2.2.1 (s3.extBut _ _ hc.2.1 (s2.extBut _ _ hc.2.2.1 (s1.extBut _ _ hc.1 e))))))
 have i7:ti (k+1) q7:=S.but (S.but (S.but (S.but (S.but i2 s3.extBut D.tf) s4.extBut D.jf) s5.extBut D.tf) s6.extBut D.lf) s7.extBut D.tf;have j7:tj (m+1) q7:=T.but (T.but (T.but j4 s5.extBut D.tg) s6.extBut D.lg) s7.extBut D.tg;have l7:tl (n+1) q7:=U.but l6 s7.extBut D.te;have a4:z < q7.objs.size:=Heap.lt_size z7;refine wpAny_bind (m:=Builtin.SmallTypes.ownedTupleHandOut (.ref z) (.ref q7.objs.size)) ?_;unfold Builtin.SmallTypes.ownedTupleHandOut;have z8:IsZip (q7.push { cls:=.type "tuple",data:=.seq #[x,y,u] }) z TI TO .ellipsis:=Heap.get?_push_of_some _ z7;refine wpAny_bind (wpAny_setField_rec z8 (by simp) λ q9 z9 s9=>?_);replace z9:IsZip q9 z TI TO (rawInt q7.objs.size):=z9;refine wpAny_setField_rec z9 (by simp) λ aS aX a3=>?_;replace aX:IsZip aS z TI TO (rawInt q7.objs.size):=aX;have up:∀ c o,c ≠ z->q7.get? c=some o->aS.get? c=some o:=λ c o hc e=>a3.extBut _ _ hc (s9.extBut _ _ hc (Heap.get?_push_of_some _ e));have a5:cR aS q7.objs.size x y u:=a3.extBut _ _ (Nat.ne_of_gt a4) (s9.extBut _ _ (Nat.ne_of_gt a4) (Heap.get?_push_size _ rfl));have a6:aS.objs.size=q7.objs.size+1:=by rw [a3.1,s9.1,Heap.size_push]
 rw [sz] at aX a5 a6;refine QI ⟨_,rfl,?_⟩
 show Q (.ref q7.objs.size) _
 rw [sz];exact hQ aS aX (up _ _ D.zt.symm o7) (S.keep _ _ _ i7 λ c hc o e=>up c o (bg hc D.zf) e) (T.keep _ _ _ j7 λ c hc o e=>up c o (bg hc D.zg) e) (U.keep _ _ _ l7 λ c hc o e=>up c o (bg hc D.ze) e) a5 a6 λ c o hc e=>up c o (λ q=>hc (by simp [q])) (k7 c o hc e)
def CA(hh:A.handled=none)(S:Src prog w i f ti vi)(T:Src prog w j g tj vj)(U:Src prog w l e tl vl)(D:mK z TI TO i j l f g e){Q:Fin->Shared->Prop}
  (hz:IsZip s.heap z TI TO .none) (aX:cR s.heap TI (.ref i) (.ref j) (.ref l)) (a3:cR s.heap TO a b c) (hi:ti k s.heap) (hj:tj m s.heap) (hl:tl n s.heap) (a4:vi k=none\/vj m=none\/vl n=none)
  (hE:∀ h' e,(∀ c o,c ∉ [z,TO,i,j,l]->s.heap.get? c=some o->h'.get? c=some o)->(∃ o,h'.get? e=some o/\o.cls=.type "StopIteration")->E (.ref e) { s with heap:=h' }) :
  wpAny (model prog w) A (Builtin.«zip.__next__» ⟨[.ref z],[]⟩) Q E s:=by
 have iz:i ≠ z:=bg S.mem D.zf;have jz:j ≠ z:=bg T.mem D.zg;have lz:l ≠ z:=bg U.mem D.ze;have a5:i ≠ TO:=bg S.mem D.tf;have a6:j ≠ TO:=bg T.mem D.tg;refine wpAny_bind (m:=field (.ref z) 2) (wpAny_field hz rfl (x:=.bool false) rfl ?_);refine wpAny_bind (m:=field (.ref z) 3) (wpAny_field hz rfl (x:=.ref TI) rfl (wpAny_bind (wpAny_seqItems aX rfl ?_)));refine wpAny_bind (m:=Builtin.SmallTypes.ownedTupleIsFree (.ref z)) ?_;unfold Builtin.SmallTypes.ownedTupleIsFree;refine wpAny_bind (wpAny_field hz rfl (x:=.none) rfl (wpAny_pure ?_));simp only [if_true];refine wpAny_bind (wpAny_rule (wpAny_bind (wpAny_field hz rfl (x:=.ref TO) rfl (wpAny_bind (wpAny_setField_rec hz (by simp) λ q1 z1 s1=>?_)))));replace z1:IsZip q1 z TI TO .ellipsis:=z1;refine wpAny_bind ?_;simp only [List.zipIdx_cons,List.zipIdx_nil,forIn_cons,forIn_nil];refine wpAny_bind (wpAny_bind (wpAny_onRaise (wpAny_bind (m:=Builtin.SmallTypes.nextOf (.ref i)) ?_)))
 cases hx:vi k with
 | none=>
  refine S.fin _ k _ _ _ hh (S.but hi s1.extBut D.zf) hx λ q2 e s2 ⟨oe,he,aS⟩=>?_;have z2:IsZip q2 z TI TO .ellipsis:=s2 _ _ iz.symm z1;have ez:e ≠ z:=λ q=>by subst q;rw [z2] at he;cases he;simp at aS
  refine Ru z2 (by simp) λ q3 _ s3=>hE q3 e (λ c o hc q=>?_) ⟨oe,s3.extBut _ _ ez he,aS⟩;simp only [Q1,QR,Rm,Th] at hc;exact s3.extBut _ _ hc.1 (s2 _ _ hc.2.2.1 (s1.extBut _ _ hc.1 q))
 | some x=>
  refine S.item _ k _ x _ _ (S.but hi s1.extBut D.zf) hx λ q2 i2 s2=>QI ?_;have o2:cR q2 TO a b c:=s2.extBut _ _ a5.symm (s1.extBut _ _ D.zt.symm a3);refine My (Rg o2 rfl (My (cI o2 λ q3 o3 s3=>My (RY (QI ?_)))));replace o3:cR q3 TO x b c:=o3;have j3:tj m q3:=T.but (T.but (T.but hj s1.extBut D.zg) s2.extBut D.ig) s3.extBut D.tg;refine My (My (Ss (My (m:=Builtin.SmallTypes.nextOf (.ref j)) ?_)))
  cases hy:vj m with
  | none=>
   refine T.fin _ m _ _ _ hh j3 hy λ q4 e s4 ⟨oe,he,aS⟩=>?_;have z4:IsZip q4 z TI TO .ellipsis:=s4 _ _ jz.symm (s3.extBut _ _ D.zt (s2.extBut _ _ iz.symm z1));have ez:e ≠ z:=λ q=>by subst q;rw [z4] at he;cases he;simp at aS
   refine Ru z4 (by simp) λ q5 _ s5=>hE q5 e (λ c o hc q=>?_) ⟨oe,s5.extBut _ _ ez he,aS⟩;simp only [Q1,QR,Rm,Th] at hc;exact s5.extBut _ _ hc.1 (s4 _ _ hc.2.2.2.1 (s3.extBut _ _ hc.2.1 (s2.extBut _ _ hc.2.2.1 (s1.extBut _ _ hc.1 q))))
  | some y=>
   have hu:vl n=none:=by
    rcases a4 with h|h|h
    ·rw [hx] at h;cases h
    ·rw [hy] at h;cases h
    ·exact h
   refine T.item _ m _ y _ _ j3 hy λ q4 j4 s4=>QI ?_;have o4:cR q4 TO x b c:=s4.extBut _ _ a6.symm o3;refine My (Rg o4 rfl (My (cI o4 λ q5 o5 s5=>My (RY (QI ?_)))));have l5:tl n q5:=U.but (U.but (U.but (U.but (U.but hl s1.extBut D.ze) s2.extBut D.ie) s3.extBut D.te) s4.extBut D.je) s5.extBut D.te;refine My (My (Ss (My (m:=Builtin.SmallTypes.nextOf (.ref l)) (U.fin _ n _ _ _ hh l5 hu λ q6 e s6 ⟨oe,he,aS⟩=>?_))));have z6:IsZip q6 z TI TO .ellipsis:=s6 _ _ lz.symm (s5.extBut _ _ D.zt (s4.extBut _ _ jz.symm (s3.extBut _ _ D.zt (s2.extBut _ _ iz.symm z1))));have ez:e ≠ z:=λ q=>by subst q;rw [z6] at he;cases he;simp at aS
   refine Ru z6 (by simp) λ q7 _ s7=>hE q7 e (λ c o hc q=>?_) ⟨oe,s7.extBut _ _ ez he,aS⟩;simp only [Q1,QR,Rm,Th] at hc;exact s7.extBut _ _ hc.1 (s6 _ _ hc.2.2.2.2 (s5.extBut _ _ hc.2.1 (s4.extBut _ _ hc.2.2.2.1 (s3.extBut _ _ hc.2.1 (s2.extBut _ _ hc.2.2.1 (s1.extBut _ _ hc.1 q))))))
def me(S:Src prog w i f ti vi)(T:Src prog w j g tj vj)(U:Src prog w l e tl vl)(D:mK z TI TO i j l f g e){Q:Option Value->Shared->Prop}
  (hz:IsZip s.heap z TI TO .none) (aS:cR s.heap TI (.ref i) (.ref j) (.ref l)) (aX:cR s.heap TO a b c) (hi:ti k s.heap) (hj:tj m s.heap) (hl:tl n s.heap) (hx:vi k=some x) (hy:vj m=some y) (hu:vl n=some u)
  (hQ:∀ h',IsZip h' z TI TO (rawInt s.heap.objs.size)->cR h' TO x y u->ti (k+1) h'->tj (m+1) h'->tl (n+1) h'->cR h' s.heap.objs.size x y u->h'.objs.size=s.heap.objs.size+1->(∀ c o,c ∉ [z,TO,i,j,l]->s.heap.get? c=some o->h'.get? c=some o)->Q (some (.ref s.heap.objs.size)) { s with heap:=h' }) :
  wpAny (model prog w) A (pyNext (.ref z)) Q E s:=by
 have ty:s.TypeIs (.ref z) "zip":=⟨_,hz,rfl⟩;unfold pyNext;exact wpAny_bind (wpAny_attempt (wpAny_callSpecial?_slot (name:=Str.ofString "__next__") ty F.slot_zip_next (wpAny_call_entry F.slot_zip_next ty F.entry_zip_next (zR S T U D hz aS aX hi hj hl hx hy hu λ h' c1 c2 c3 c4 c5 c6 c7 c8=>wpAny_pure (hQ h' c1 c2 c3 c4 c5 c6 c7 c8)) (F.args_zip_next_1 _))))
def oY(hh:A.handled=none)(S:Src prog w i f ti vi)(T:Src prog w j g tj vj)(U:Src prog w l e tl vl)(D:mK z TI TO i j l f g e){Q:Option Value->Shared->Prop}
  (hz:IsZip s.heap z TI TO .none) (aS:cR s.heap TI (.ref i) (.ref j) (.ref l)) (aX:cR s.heap TO a b c) (hi:ti k s.heap) (hj:tj m s.heap) (hl:tl n s.heap) (a3:vi k=none\/vj m=none\/vl n=none)
  (hQ:∀ h',(∀ c o,c ∉ [z,TO,i,j,l]->s.heap.get? c=some o->h'.get? c=some o)->Q none { s with heap:=h' }):wpAny (model prog w) A (pyNext (.ref z)) Q E s:=by
 have ty:s.TypeIs (.ref z) "zip":=⟨_,hz,rfl⟩;unfold pyNext;refine wpAny_bind (wpAny_attempt (wpAny_callSpecial?_slot (name:=Str.ofString "__next__") ty F.slot_zip_next (wpAny_call_entry F.slot_zip_next ty F.entry_zip_next (CA (show A.in1.handled=none from hh) S T U D hz aS aX hi hj hl a3 λ h' e kp he=>?_) (F.args_zip_next_1 _))));obtain⟨o,ho,hc⟩:=he;exact wpAny_bind (wpAny_isInstance (T := "StopIteration") (b:=true) ⟨o,ho,hc⟩ isSubtype_stop (wpAny_pure (hQ _ kp)))
end
def mf(a b c:Value):checkTypeCall "zip" ⟨[a,b,c],[]⟩=pure ():=by kernel_rfl
def pB(a b c:Value):checkBuiltinCall "zip.__new__" ⟨[.type "zip",a,b,c],[]⟩=pure ():=by kernel_rfl
def i9(a b c d:Value):argsOk "object.__init__" ⟨[a,b,c,d],[]⟩:=by
 unfold argsOk;rw [signature?_of (id := "object.__init__") (n:=['_','_','t','i','n','i','_','_']) (o:=['t','c','e','j','b','o']) (by kernel_rfl) F.owner_object];kernel_rfl
section
variable {prog:Program}{w:World}{A:Around}{E:Value->Shared->Prop}{s:Shared}
abbrev yq1(a:Addr)(h:Heap):Heap:=h.push (lZ false a)
abbrev yq2(a b:Addr)(h:Heap):Heap:=(yq1 a h).push (lZ false b)
abbrev JQ(a b c:Addr)(h:Heap):Heap:=(yq2 a b h).push (lZ false c)
abbrev yq3(a b c:Addr)(h:Heap):Heap:=(JQ a b c h).push { cls:=.type "tuple",data:=.seq #[.ref h.objs.size,.ref (yq1 a h).objs.size,.ref (yq2 a b h).objs.size] }
abbrev yq4(a b c:Addr)(h:Heap):Heap:=(yq3 a b c h).push { cls:=.type "tuple",data:=.seq #[.none,.none,.none] }
abbrev yq5(a b c:Addr)(h:Heap):Heap:=(yq4 a b c h).push { cls:=.type "zip",data:=.fields #[.none,.bool false,.bool false,.ref (JQ a b c h).objs.size,.ref (yq3 a b c h).objs.size] }
def vU(a b c:Addr)(xs ys us:Array Value):Meets (Builtin.«zip.__new__» ⟨[.type "zip",.ref a,.ref b,.ref c],[]⟩) (λ _ R s=>SeqAt s.heap false a xs/\SeqAt s.heap false b ys/\SeqAt s.heap false c us/\R (.ok (.ret (.ref (yq4 a b c s.heap).objs.size))) { s with heap:=yq5 a b c s.heap }):=
 .of_wp λ prog w A R s h=>by
  obtain⟨hp,g,d,tk,os⟩:=s;obtain⟨h1,h2,h3,h⟩:=h;have aS:=sub_zip;have q1:SeqAt (Shared.heap ⟨hp,g,d,tk,os⟩) false a xs:=h1;have q2:SeqAt (Shared.heap ⟨hp.push (lZ false a),g,d,tk,os⟩) false b ys:=h2.at λ o e=>QC _ e;have q3:SeqAt (Shared.heap ⟨(hp.push (lZ false a)).push (lZ false b),g,d,tk,os⟩) false c us:=h3.at λ o e=>QC _ (QC _ e)
  wp_walk using ko q1,ko q2,ko q3
  exact⟨_,rfl,h⟩
def JD{a b c:Addr}{xs ys us:Array Value}{Q:Value->Shared->Prop}(h1:SeqAt s.heap false a xs)(h2:SeqAt s.heap false b ys)(h3:SeqAt s.heap false c us)
  (h:∀ h' n,n=s.heap.objs.size->IsZip h' (n+5) (n+3) (n+4) .none->cR h' (n+3) (.ref n) (.ref (n+1)) (.ref (n+2))->cR h' (n+4) .none .none .none->bh h' false n a 0->bh h' false (n+1) b 0->bh h' false (n+2) c 0->h'.objs.size=n+6->(∀ c o,s.heap.get? c=some o->h'.get? c=some o)->Q (.ref (n+5)) { s with heap:=h' }) :
  wpAny (model prog w) A (call (.type "zip") [.ref a,.ref b,.ref c]) Q E s:=by
 refine callType_new F.called_zip (by decide) (mf _ _ _) (pB _ _ _) (λ ob=>i9 ob _ _ _) F.entry_zip_new (vU a b c xs ys us) ⟨h1,h2,h3,?_⟩;have n1:(yq1 a s.heap).objs.size=s.heap.objs.size+1:=Ri ..;have n2:(yq2 a b s.heap).objs.size=s.heap.objs.size+2:=by rw [Ri,n1]
 have n3:(JQ a b c s.heap).objs.size=s.heap.objs.size+3:=by rw [Ri,n2]
 have n4:(yq3 a b c s.heap).objs.size=s.heap.objs.size+4:=by rw [Ri,n3]
 have n5:(yq4 a b c s.heap).objs.size=s.heap.objs.size+5:=by rw [Ri,n4]
 have n6:(yq5 a b c s.heap).objs.size=s.heap.objs.size+6:=by rw [Ri,n5]
 have f1:bh (yq1 a s.heap) false s.heap.objs.size a 0:=⟨_,QN _ rfl,rfl,rfl⟩;have f2:bh (yq2 a b s.heap) false (yq1 a s.heap).objs.size b 0:=⟨_,QN _ rfl,rfl,rfl⟩;have f3:bh (JQ a b c s.heap) false (yq2 a b s.heap).objs.size c 0:=⟨_,QN _ rfl,rfl,rfl⟩;have u2:∀ d o,(JQ a b c s.heap).get? d=some o->(yq5 a b c s.heap).get? d=some o:=λ d o e=>QC _ (QC _ (QC _ e));have g5:(yq5 a b c s.heap).get? (yq4 a b c s.heap).objs.size=some _:=QN _ rfl;have g4:(yq5 a b c s.heap).get? (yq3 a b c s.heap).objs.size=some _:=QC _ (QN _ rfl);have g3:(yq5 a b c s.heap).get? (JQ a b c s.heap).objs.size=some _:=QC _ (QC _ (QN _ rfl));have e1:bh (yq5 a b c s.heap) false s.heap.objs.size a 0:=f1.at λ o e=>u2 _ o (QC _ (QC _ e));have e2:bh (yq5 a b c s.heap) false (yq1 a s.heap).objs.size b 0:=f2.at λ o e=>u2 _ o (QC _ e);have e3:bh (yq5 a b c s.heap) false (yq2 a b s.heap).objs.size c 0:=f3.at λ o e=>u2 _ o e
 show _/\_
 rw [n3,n4,n5] at g5;rw [n1,n2,n3] at g3;rw [n4] at g4;rw [n1] at e2;rw [n2] at e3;rw [n5];exact⟨⟨_,g5,rfl⟩,h _ _ rfl g5 g3 g4 e1 e2 e3 n6 λ d o e=>u2 d o (QC _ (QC _ (QC _ e)))⟩
end
def It3(a b c:Addr)(xs ys us:List V):It:=
 ⟨λ i H=>SqK false H a xs/\SqK false H b ys/\SqK false H c us/\i < xs.length/\i < ys.length/\i < us.length,λ i H x H'=>∃ p u v t,H p=none/\x=.ref p/\xs[i]? = some u/\ys[i]? = some v/\us[i]? = some t/\H'=upd H p (.tup [u,v,t]),λ i H=>SqK false H a xs/\SqK false H b ys/\SqK false H c us/\(xs.length<=i\/ys.length<=i\/us.length<=i)⟩
def Tn3(a b c z TI TO p q r:Addr)(i:Nat)(h:Heap):Prop:=IsZip h z TI TO .none/\cR h TI (.ref p) (.ref q) (.ref r)/\(∃ u v t,cR h TO u v t)/\bh h false p a i/\bh h false q b i/\bh h false r c i
def zX{P:Program}{w:World}{K:W.Frag}{elts:List Expr}{x1}{tp:Pos}(a b c z TI TO p q r:Addr)(xs ys us:List V)(nd:[z,TI,TO,p,q,r].Nodup):B8 P w K (.Tuple elts x1 tp) (It3 a b c xs ys us) [z,TI,TO,p,q,r] z (Tn3 a b c z TI TO p q r) where
 mem:=QP
 obj:=λ i h st d hd=>by
  obtain⟨e1,e2,⟨u,v,t,e3⟩,e4,e5,e6⟩:=st;simp only [Q1,QR,Rm] at hd
  rcases hd with rfl|rfl|rfl|rfl|rfl|rfl
  ·exact⟨_,e1,λ v z=>by cases z⟩
  ·exact⟨_,e2,λ v z=>by cases z⟩
  ·exact⟨_,e3,λ v z=>by cases z⟩
  ·obtain⟨o,fs,e,d⟩:=e4.obj;exact⟨o,e,λ v z=>by rw [d] at z;cases z⟩
  ·obtain⟨o,fs,e,d⟩:=e5.obj;exact⟨o,e,λ v z=>by rw [d] at z;cases z⟩
  ·obtain⟨o,fs,e,d⟩:=e6.obj;exact⟨o,e,λ v z=>by rw [d] at z;cases z⟩
 keep:=λ i h h' st k=>by
  obtain⟨e1,e2,⟨u,v,t,e3⟩,e4,e5,e6⟩:=st;exact⟨k z (by simp) _ e1,k TI (by simp) _ e2,⟨u,v,t,k TO (by simp) _ e3⟩,e4.at λ o e=>k p (by simp) o e,e5.at λ o e=>k q (by simp) o e,e6.at λ o e=>k r (by simp) o e⟩
 item:=by
  intro X hP hw hK hc i pins s σ H E I hf st hg;subst hP hw hK;obtain⟨e1,e2,⟨u0,v0,t0,e3⟩,e4,e5,e6⟩:=st;obtain⟨ha,hb,a4,l1,l2,l3⟩:=hg;obtain⟨as,ra,sa⟩:=I.sq ha;obtain⟨bs,rb,sb⟩:=I.sq hb;obtain⟨cs,rc,sc⟩:=I.sq a4;have hx:xs[i]? = some xs[i]:=QB l1;have hy:ys[i]? = some ys[i]:=QB l2;have ht:us[i]? = some us[i]:=QB l3;obtain⟨u,hu,ru⟩:=ra.get hx;obtain⟨v,hv,rv⟩:=rb.get hy;obtain⟨y,a5,ry⟩:=rc.get ht;have free:∀ d∈[z,TI,TO,p,q,r],H d=none:=λ d h=>(hf d h).1;have aS:∀ d∈[z,TI,TO,p,q,r],a ≠ d:=λ d h=>ha.ne (free d h);have aX:∀ d∈[z,TI,TO,p,q,r],b ≠ d:=λ d h=>hb.ne (free d h);have a3:∀ d∈[z,TI,TO,p,q,r],c ≠ d:=λ d h=>a4.ne (free d h);simp only [Sb,Q1,QR,Rm,Th,SO,and_true,Ta] at nd;obtain⟨⟨z1,z2,z3,z4,z5⟩,⟨t1,t2,t3,t4⟩,⟨w1,w2,w3⟩,⟨y1,y2⟩,y3⟩:=nd;have S:=dU (prog:=X.prog) (w:=X.w) false p a (aS p (by simp)) as.toArray;have T:=dU (prog:=X.prog) (w:=X.w) false q b (aX q (by simp)) bs.toArray;have U:=dU (prog:=X.prog) (w:=X.w) false r c (a3 r (by simp)) cs.toArray;have D:mK z TI TO p q r [p,a] [q,b] [r,c]:=⟨⟨QQ z1,t1,t2,t3,t4⟩,z2,by simp [z3,QQ (aS z (by simp))],by simp [z4,QQ (aX z (by simp))],by simp [z5,QQ (a3 z (by simp))],by simp [w1,QQ (aS TO (by simp))],by simp [w2,QQ (aX TO (by simp))],by simp [w3,QQ (a3 TO (by simp))],by simp [y1,QQ (aX p (by simp))],by simp [y2,QQ (a3 p (by simp))],by simp [QQ y1,QQ (aS q (by simp))],by simp [y3,QQ (a3 q (by simp))],by simp [QQ y2,QQ (aS r (by simp))],by simp [QQ y3,QQ (aX r (by simp))]⟩;refine me S T U D e1 e2 e3 ⟨e4,sa⟩ ⟨e5,sb⟩ ⟨e6,sc⟩ (x:=u) (y:=v) (u:=y) (by simpa using hu) (by simpa using hv) (by simpa using a5) λ h1 c1 c2 c3 c4 a6 c5 c6 c7=>?_;refine⟨_,rfl,wpAny_letOwnedTupleGo_zip (s:={ s with heap:=h1 }) c1 λ h2 d1 d2=>?_⟩;have lt:z < s.heap.objs.size:=QH e1;have kp:∀ d o,d ∉ [z,TO,p,q,r]->s.heap.get? d=some o->h2.get? d=some o:=λ d o hd e=>d2.extBut _ _ (λ q=>hd (by simp [q])) (c7 d o hd e);have hn:h2.get? s.heap.objs.size=some { cls:=.type "tuple",data:=.seq #[u,v,y] }:=d2.extBut _ _ (RE lt) c5;have I2:Inv X pins σ (upd H s.heap.objs.size (.tup [xs[i],ys[i],us[i]])) { s with heap:=h2 }:=I.turnNew (t':=s.toks) (ch:=[z,TO,p,q,r]) (λ d hd=>hf d (by simp only [Q1,QR,Rm] at hd ⊢;rcases hd with h|h|h|h|h<;>simp [h])) kp (QK _) ⟨(show 3<=sizeLine by decide),[u,v,y],.cons ru (.cons rv (.cons ry .nil)),⟨_,hn,rfl,_,rfl⟩⟩;have fr:H s.heap.objs.size=none:=I.hok.fresh (QK _);refine⟨.ref s.heap.objs.size,_,I2,rfl,⟨_,_,_,_,fr,rfl,hx,hy,ht,rfl⟩,⟨d1,d2.extBut _ _ (QQ z1) (c7 TI _ (by simp [QQ z1,t1,t2,t3,t4]) e2),⟨u,v,y,d2.extBut _ _ (QQ z2) c2⟩,c3.1.at λ o e=>d2.extBut _ _ (QQ z3) e,c4.1.at λ o e=>d2.extBut _ _ (QQ z4) e,a6.1.at λ o e=>d2.extBut _ _ (QQ z5) e⟩,λ d hd=>?_⟩
  obtain⟨o,ho,_⟩:∃ o,s.heap.get? d=some o/\True:=by
   simp only [Q1,QR,Rm] at hd
   rcases hd with rfl|rfl|rfl|rfl|rfl|rfl
   ·exact⟨_,e1,trivial⟩
   ·exact⟨_,e2,trivial⟩
   ·exact⟨_,e3,trivial⟩
   ·obtain⟨o,_,e,_⟩:=e4.obj;exact⟨o,e,trivial⟩
   ·obtain⟨o,_,e,_⟩:=e5.obj;exact⟨o,e,trivial⟩
   ·obtain⟨o,_,e,_⟩:=e6.obj;exact⟨o,e,trivial⟩
  rw [ah (QY (QH ho))];exact free d hd
 done:=by
  intro X hP hw hK hc i pins s σ H E I hf st hg;subst hP hw hK;obtain⟨e1,e2,⟨u0,v0,t0,e3⟩,e4,e5,e6⟩:=st;obtain⟨ha,hb,a4,l⟩:=hg;obtain⟨as,ra,sa⟩:=I.sq ha;obtain⟨bs,rb,sb⟩:=I.sq hb;obtain⟨cs,rc,sc⟩:=I.sq a4;have free:∀ d∈[z,TI,TO,p,q,r],H d=none:=λ d h=>(hf d h).1;have aS:∀ d∈[z,TI,TO,p,q,r],a ≠ d:=λ d h=>ha.ne (free d h);have aX:∀ d∈[z,TI,TO,p,q,r],b ≠ d:=λ d h=>hb.ne (free d h);have a3:∀ d∈[z,TI,TO,p,q,r],c ≠ d:=λ d h=>a4.ne (free d h);simp only [Sb,Q1,QR,Rm,Th,SO,and_true,Ta] at nd;obtain⟨⟨z1,z2,z3,z4,z5⟩,⟨t1,t2,t3,t4⟩,⟨w1,w2,w3⟩,⟨y1,y2⟩,y3⟩:=nd;have S:=dU (prog:=X.prog) (w:=X.w) false p a (aS p (by simp)) as.toArray;have T:=dU (prog:=X.prog) (w:=X.w) false q b (aX q (by simp)) bs.toArray;have U:=dU (prog:=X.prog) (w:=X.w) false r c (a3 r (by simp)) cs.toArray;have D:mK z TI TO p q r [p,a] [q,b] [r,c]:=⟨⟨QQ z1,t1,t2,t3,t4⟩,z2,by simp [z3,QQ (aS z (by simp))],by simp [z4,QQ (aX z (by simp))],by simp [z5,QQ (a3 z (by simp))],by simp [w1,QQ (aS TO (by simp))],by simp [w2,QQ (aX TO (by simp))],by simp [w3,QQ (a3 TO (by simp))],by simp [y1,QQ (aX p (by simp))],by simp [y2,QQ (a3 p (by simp))],by simp [QQ y1,QQ (aS q (by simp))],by simp [y3,QQ (a3 q (by simp))],by simp [QQ y2,QQ (aS r (by simp))],by simp [QQ y3,QQ (aX r (by simp))]⟩;have la:=ra.length;have lb:=rb.length;have lc:=rc.length;refine oY (I.ok.hd hc) S T U D e1 e2 e3 ⟨e4,sa⟩ ⟨e5,sb⟩ ⟨e6,sc⟩ (l.imp (λ h=>by simp;omega) (Or.imp (λ h=>by simp;omega) λ h=>by simp;omega)) λ h1 kp=>⟨rfl,I.turnL (t':=s.toks) (ch:=[z,TO,p,q,r]) (λ d hd=>hf d (by simp only [Q1,QR,Rm] at hd ⊢;rcases hd with h|h|h|h|h<;>simp [h])) kp⟩
 self:=λ _ _ _ _ _ st h=>TQ st.1 h
def kY2(a b c:Addr)(xs ys:List V)(H:Hp)(R:It->Hp->Prop):List V->Prop:=λ us=>R (It3 a b c xs ys us) H
def OG(a b c:Addr)(xs ys us:List V)(H:Hp)(R:It->Hp->Prop):kY2 a b c xs ys H R us=R (It3 a b c xs ys us) H:=rfl
def kY1(a b c:Addr)(xs:List V)(H:Hp)(R:It->Hp->Prop):List V->Prop:=λ ys=>aH (az H c) (kY2 a b c xs ys H R)
def OH(a b c:Addr)(xs ys:List V)(H:Hp)(R:It->Hp->Prop):kY1 a b c xs H R ys=aH (az H c) (kY2 a b c xs ys H R):=rfl
def kY(a b c:Addr)(H:Hp)(R:It->Hp->Prop):List V->Prop:=λ xs=>aH (az H b) (kY1 a b c xs H R)
def Qp(a b c:Addr)(xs:List V)(H:Hp)(R:It->Hp->Prop):kY a b c H R xs=aH (az H b) (kY1 a b c xs H R):=rfl
def kY0(R:It->Hp->Prop):List V->Hp->Prop:=λ vs H=>match vs with
 | [.ref a,.ref b,.ref c]=>aH (az H a) (kY a b c H R)
 | _=>False
def OI(R:It->Hp->Prop)(a b c:Addr)(H:Hp):kY0 R [.ref a,.ref b,.ref c] H=aH (az H a) (kY a b c H R):=rfl
def Kz(ta:TA):TI:=λ σ H R=>ta σ H (kY0 R)
def IM(ta:TA)(σ:St)(H:Hp)(R:It->Hp->Prop):Kz ta σ H R=ta σ H (kY0 R):=rfl
section
variable {X:Cx}
def Hk{a b c:Expr}{elts:List Expr}{x1}{tp:Pos}{ta:TA}{p pos:Pos}(hg:Gl X "zip")(hm:X.mg "zip"=none)(ha:PA X [a,b,c] ta)(hs:starEach [a,b,c] X.env=[(false,eval a X.env),(false,eval b X.env),(false,eval c X.env)]:=by rfl)(aS:starEach [b,c] X.env=[(false,eval b X.env),(false,eval c X.env)]:=by rfl) :
  PI X (.Tuple elts x1 tp) (.Call (.Name "zip" p) [a,b,c] [] pos) (Kz ta):=by
 intro pins s σ H R I h;refine Call_ (eV I hg hm (show bootBuiltins "zip"=some (.type "zip") by decide +kernel) (PyProof.Rows.callWith_type1 (thn (ha pos pins s σ H _ I h) λ us s1 ⟨vs,H1,I1,r1,q1⟩=>?_) (by rw [hs,aS]) (by rw [aS];rfl)));unfold kY0 at q1;split at q1
 ·rename_i a b c;obtain⟨xs,e1,q1⟩:=ai q1;obtain⟨ys,e2,q1⟩:=ai q1;obtain⟨zs,e3,q⟩:=ai q1;have sa:SqK false H1 a xs:=bp e1;have sb:SqK false H1 b ys:=bp e2;have sc:SqK false H1 c zs:=bp e3
  cases r1 with
  | cons r rr=>
   cases rr with
   | cons r' rr=>
    cases rr with
    | cons r'' rr=>
     cases rr;cases r;cases r';cases r'';obtain⟨as,ra,aX⟩:=I1.sq sa;obtain⟨bs,rb,a3⟩:=I1.sq sb;obtain⟨cs,rc,a4⟩:=I1.sq sc;refine JD aX a3 a4 λ h' n hn e1 e2 e3 e4 e5 a5 e6 e7=>?_;have I2:Inv X pins σ H1 { s1 with heap:=h' }:=I1.kept (t':=s1.toks) e7;refine TQ (s:={ s1 with heap:=h' }) e1 ⟨n+5,[n+5,n+3,n+4,n,n+1,n+2],_,_,H1,rfl,I2,zX a b c (n+5) (n+3) (n+4) n (n+1) (n+2) xs ys zs (by simp),⟨e1,e2,⟨_,_,_,e3⟩,e4,e5,a5⟩,λ d hd=>?_,q⟩
     have hle:s1.heap.objs.size<=d:=by
      rw [←hn];simp only [Q1,QR,Rm] at hd
      rcases hd with rfl|rfl|rfl|rfl|rfl|rfl
      ·exact RH ..
      ·exact RH ..
      ·exact RH ..
      ·exact QK _
      ·exact RH ..
      ·exact RH ..
     exact I1.fpOk hle (I1.hok.fresh hle)
 ·exact q1.elim
end
def EA{g:TG}{σ:St}{H:Hp}{tb:TS}{nx:St->Hp->Prop}{rt:VK}{bk ct:St->Hp->Prop}{a b c:Addr}{xs ys us:List V}(Pv:Nat->St->Hp->Prop)(h0:Pv 0 σ H)(hl:∀ i σ H,Pv i σ H->H a=some (.lst xs)/\H b=some (.lst ys)/\H c=some (.lst us))
  (hs:∀ i u v t p σ H H',xs[i]? = some u->ys[i]? = some v->us[i]? = some t->Pv i σ H->H p=none->Ext H H'->H' p=some (.tup [u,v,t])->g (.ref p) σ H' (sk tb ⟨Pv (i+1),rt,nx,Pv (i+1)⟩)) (hd:∀ σ H,Pv (min xs.length (min ys.length us.length)) σ H->nx σ H):FD g tb ⟨nx,rt,bk,ct⟩ σ (It3 a b c xs ys us) H:=by
 refine⟨λ i m σ H=>m=min xs.length (min ys.length us.length) - i/\i<=min xs.length (min ys.length us.length)/\Pv i σ H,⟨min xs.length (min ys.length us.length),by simp,RP _,h0⟩,?_⟩;rintro i m σ H ⟨rfl,hi,p⟩;obtain⟨qa,qb,qc⟩:=hl i σ H p
 by_cases hlt:i < min xs.length (min ys.length us.length)
 ·refine .inr ⟨⟨qa,qb,qc,by omega,by omega,by omega⟩,Pv (i+1),λ σ' H' p'=>⟨min xs.length (min ys.length us.length) - (i+1),by omega,rfl,hlt,p'⟩,λ x H' y=>?_⟩;obtain⟨r,u,v,t,hr,rfl,hu,hv,ht,rfl⟩:=y;exact hs i u v t r σ H _ hu hv ht p hr (Ext.new hr) ar
 ·have e:i=min xs.length (min ys.length us.length):=by omega
  subst e;exact .inl ⟨⟨qa,qb,qc,by omega⟩,hd σ H p⟩
def NO(Q:VK)(a:Addr):VK:=λ y H=>∃ o,pO H a y o/\Q (o.getD .non) H
def PJ(ty:TE)(σ:St)(Q:VK):VK:=λ x H=>∃ a,x=.ref a/\IsD H a/\ty σ H (NO Q a)
def DD(td ty:TE)(σ:St)(H:Hp)(Q:VK):Fd td ty σ H Q=td σ H (PJ ty σ Q):=rfl
def CH{ty:TE}{σ:St}{Q:VK}{H:Hp}{a:Addr}{kvs:List (Key × V)}(e:H a=some (.dK kvs))(q:ty σ H (NO Q a)):PJ ty σ Q (.ref a) H:=⟨a,rfl,.inl ⟨kvs,.inl e⟩,q⟩
def GN{Q:VK}{H:Hp}{a:Addr}{kvs:List (Key × V)}{k:Key}(e:H a=some (.dK kvs))(q:Q ((eP kvs k).getD .non) H):NO Q a (kV k) H:=⟨_,pO.k e,q⟩
def NM(Q:VK)(a:Addr)(y:V):VK:=λ z H=>∃ o,pO H a y o/\Q (o.getD z) H
def NN(tx:TE)(σ:St)(Q:VK)(a:Addr):VK:=λ y H=>tx σ H (NM Q a y)
def Md(tx:TE)(σ:St)(Q:VK)(a:Addr)(y:V)(H:Hp):NN tx σ Q a y H=tx σ H (NM Q a y):=rfl
def PF(ty tx:TE)(σ:St)(Q:VK):VK:=λ x H=>∃ a,x=.ref a/\IsD H a/\ty σ H (NN tx σ Q a)
def DC(td ty tx:TE)(σ:St)(H:Hp)(Q:VK):Fc td ty tx σ H Q=td σ H (PF ty tx σ Q):=rfl
def GO{ty tx:TE}{σ:St}{Q:VK}{H:Hp}{a:Addr}{kvs:List (Key × V)}(e:H a=some (.dK kvs))(q:ty σ H (NN tx σ Q a)):PF ty tx σ Q (.ref a) H:=⟨a,rfl,.inl ⟨kvs,.inl e⟩,q⟩
def KL{Q:VK}{H:Hp}{a:Addr}{kvs:List (Key × V)}{k:Key}{z:V}(e:H a=some (.dK kvs))(q:Q ((eP kvs k).getD z) H):NM Q a (kV k) z H:=⟨_,pO.k e,q⟩
def Qk(neg:Bool):R2:=λ x y H Q=>∃ d ds,gY H 6 x=some d/\gY H 6 y=some (.list ds)/\Q (.bl (if neg=true then !(ds.any λ y=>PyData.eqv y d) else ds.any λ y=>PyData.eqv y d)) H
section
variable {X:Cx}
def DT{ds:List PyData}(h:(PyData.list ds).canLay0=true):PyData.canLayAll0 ds=true:=by simpa [PyData.canLay0] using h
def qx(hu:X.A.units+64 < cLine):OpR X (compareOp .NotIn) (Qk true):=by
 intro pins s σ H x y v u Q I rx ry h;obtain⟨d,ds,e1,e2,q⟩:=h;obtain⟨a,b,c⟩:=kz (K:=X.K) 6 x d e1;obtain⟨a',b',c'⟩:=kz (K:=X.K) 6 y _ e2;obtain⟨as,z⟩:=a.reads I rx;obtain⟨bs,z'⟩:=a'.reads I ry;exact SeqAt.notIn_list_reads z' z (DT b') b (by have:=Nat.min_le_right (PyData.depthAll ds) d.depth;omega) ⟨.bl _,H,I,rfl,q⟩
end
def yu(X:Cx)(f:Value)(ks:List Str)(r:List V->List V->Hp->VK->Prop):Prop:=∀ pins s σ H vs us zs ws Q,Inv X pins σ H s->aY vs us->aY zs ws->r vs zs H Q->wpAny (model X.prog X.w) X.A (call f us (ks.zip ws)) (EP X pins σ Q) X.xe s
def N2(r:List V->List V->Hp->VK->Prop)(Q:VK)(vs:List V):List V->Hp->Prop:=λ zs H=>r vs zs H Q
def Mr(r:List V->List V->Hp->VK->Prop)(Q:VK)(vs zs:List V)(H:Hp):N2 r Q vs zs H=r vs zs H Q:=rfl
def N3(r:List V->List V->Hp->VK->Prop)(tk:TA)(σ:St)(Q:VK):List V->Hp->Prop:=λ vs H=>tk σ H (N2 r Q vs)
def Ms(r:List V->List V->Hp->VK->Prop)(tk:TA)(σ:St)(Q:VK)(vs:List V)(H:Hp):N3 r tk σ Q vs H=tk σ H (N2 r Q vs):=rfl
def Pe(r:List V->List V->Hp->VK->Prop)(t tk:TA):TE:=λ σ H Q=>t σ H (N3 r tk σ Q)
def LD(r:List V->List V->Hp->VK->Prop)(t tk:TA)(σ:St)(H:Hp)(Q:VK):Pe r t tk σ H Q=t σ H (N3 r tk σ Q):=rfl
def qv{X:Cx}{id:String}{x:Str}{p pos:Pos}{e:Expr}{es:List Expr}{kws:List Keyword}{ks:List Str}{r:List V->List V->Hp->VK->Prop}{t tk:TA}(hc:yu X (.builtin id) ks r)(hg:Gl X x)(hm:X.mg x=none)(hv:bootBuiltins x=some (.builtin id))(ha:PA X (e::es) t)(hk:PK X kws tk)(hn:x ≠ "__name__":=by decide)(aS:(x == ("__debug__":Str))=false:=by decide)
  (aX:(backToKw pos (keywordEach kws X.env)).filterMap (·.1)=ks:=by rfl)
  (h1:backTo pos (starEach (e::es) X.env)=(false,eval e X.env)::backTo pos (starEach es X.env):=by rfl)
  (h2:(backTo pos (starEach (e::es) X.env)).any (·.1)=false:=by rfl)
  (h3:(backToKw pos (keywordEach kws X.env)).all (·.1.isSome)=true:=by rfl)
  (h4:(backToKw pos (keywordEach kws X.env)).any (·.1.isNone)=false:=by rfl):PE X (.Call (.Name x p) (e::es) kws pos) (Pe r t tk):=by
 intro pins s σ H Q I h;refine Su (eV I hg hm hv ?_ hn aS);refine callWith_kw (thn (ha pos pins s σ H _ I h) λ us s1 ⟨vs,H1,I1,r1,q1⟩=>thn (hk pos pins s1 σ H1 _ I1 q1) λ ws s2 ⟨zs,H2,I2,r2,q2⟩=>?_) h1 h2 h3 h4;rw [aX];exact hc pins s2 σ H2 vs us zs ws Q I2 r1 r2 q2
def m7{prog:Program}{w:World}{A:Around}{E:Value->Shared->Prop}{s:Shared}{id:String}{b:Builtin}{xs:List Value}{kv:List (Str × Value)}{Q:Value->Shared->Prop}(hk:builtinKind id=none)(hp:plainId id=true)
  (hb:entryFor table id=some b) (ha:argsOk id ⟨xs,kv⟩)
  (hc:wpAny (model prog w) A.in1 (b ⟨xs,kv⟩) (λ fin z=>match fin with
   | .done f=>(match (Except.ok f:Result) with | .ok (.ret v)=>Q v z | .ok _=>False | .error e=>E e z)
   | .again c=>c.quiet=true/\codeAny (model prog w) A c (λ r z=>match r with | .ok (.ret v)=>Q v z | .ok _=>False | .error e=>E e z) z) E s) :
  wpAny (model prog w) A (call (.builtin id) xs kv) Q E s:=by
 refine wpAny_call (codeAny_call_builtin (args:=⟨xs,kv⟩) hp hb ?_);simp only [checkBuiltinCall,hk]
 cases hs:Manifest.signature? id with
 | none=>exact QI hc
 | some sg=>
  simp only [argsOk,hs] at ha;have h2:Bind.checkArgs id sg ⟨xs,kv⟩=pure ():=ha;simp only [h2];exact QI hc
section
variable {prog:Program}{w:World}{A:Around}{R:Result->Shared->Prop}{J:Addr}{fp wr:List Addr}{G:Array GenState->Array GenState->Prop}{n:Nat}{P:Nat->Value->Prop}{St:Nat->Shared->Prop}
def Dz(kv:List (Str × Value))(W:WalksS prog w A.in1 J fp wr G n P St)(bt:Nat->Nat->Bool)(a5:CmpOf prog w A.in1 .Lt P bt)(D:Addr)(hD:D ∉ fp) :
  ∀ (k j:Nat) (s:Shared) (b:Value) (c:Nat),n - (j+1)=k->j+1<=n->St (j+1) s->P (argBest bt j) b->s.heap.get? D=some { cls:=.type "list",dict:=none,data:=.seq #[b,b] c,slots:=#[] } →
  (∀ v z,P (argBest bt (n - 1)) v->Moved (D::wr) G s z->R (.ok (.ret v)) z)->codeAny (model prog w) A (.builtin "min.loop" ⟨[.ref J,.none,.ref D],kv⟩) R s:=by
 have a6:D ∉ wr:=λ h=>hD (W.sub _ h);have sub:∀ a∈wr,a∈D::wr:=λ a ha=>QM _ ha;have nm:(toString "min" ++ toString ".loop":String) = "min.loop":=by decide
 have nD:∀ {a:Addr},a ∉ D::wr->D ≠ a:=λ ha h=>ha (by rw [h];exact QP);intro k
 induction k with
 | zero=>
  intro j s b c hk hj st hb hg hR;have a7:j+1=n:=by omega
  refine(Sz F.entry_min_loop ?_);rw [(R6 SM _)]
  show wpAny _ A.in1 ((seqItems? (.ref D)) >>= _) _ _ s
  refine My (Rg hg rfl ?_)
  show wpAny _ A.in1 ((tryCatch (pyNext (.ref J)) _) >>= _) _ _ s
  refine My (Sh (W.done s _ _ (a7 ▸ st) λ z mv=>?_));have aS:=mv.heap D _ a6 hg
  show wpAny _ A.in1 ((updateSeq D (λ _=>#[])) >>= _) _ _ _
  refine My ?_;refine(R4 aS rfl (My (RY (QI ?_))));exact hR b _ (by rw [←a7];exact hb) ((mv.mono sub).then_heap (tk:=z.toks) (QK _) λ a o ha e=>(Q9 _ _ (nD ha)).trans e)
 | succ k ih=>
  intro j s b c hk hj st hb hg hR;have aX:j+1 < n:=by omega
  refine(Sz F.entry_min_loop ?_);rw [(R6 SM _)]
  show wpAny _ A.in1 ((seqItems? (.ref D)) >>= _) _ _ s
  refine My (Rg hg rfl ?_)
  show wpAny _ A.in1 ((tryCatch (pyNext (.ref J)) _) >>= _) _ _ s
  refine My (Sh (W.item (j+1) s _ _ aX st λ v z hP a8 mv=>?_));have aS:=mv.heap D _ a6 hg
  show wpAny _ A.in1 ((tryCatch (holding [v,v] (richCompare .Lt v b >>= _)) _) >>= _) _ _ _
  refine My (Sh (R5 (My (a5 (j+1) (argBest bt j) v b _ _ _ hP hb ?_))));refine(My (R5 (RZ ?_)));refine(My (RY (QI ?_)))
  cases hbt:bt (j+1) (argBest bt j) with
  | true=>
   simp only [Tv];refine My ?_;refine(R4 aS rfl (My (RY ?_)));rw [nm];refine QI ⟨Sv SM _,ih (j+1) _ v _ (by omega) aX (W.frame _ z _ z.toks a8 (QK _) λ a ha o e=>?_) (by simp only [argBest,hbt,Tv];exact hP) (Rt _ aS rfl) λ v' z' a3 a4=>?_⟩
   ·exact(Q9 _ _ (λ h:D=a=>hD (by rw [h];exact ha))).trans e
   ·exact hR v' z' a3 (Uq W.gtrans ((mv.mono sub).then_heap (by first|exact QK _|exact SI _|omega) λ a o ha e=>(Q9 _ _ (nD ha)).trans e) a4)
  | false=>
   simp only [Sf,Tq];refine(My (RY ?_));rw [nm];refine QI ⟨Sv SM _,ih (j+1) _ b c (by omega) aX a8 (by simp only [argBest,hbt,Sf,Tq];exact hb) aS λ v' z' a3 a4=>?_⟩;exact hR v' z' a3 (Uq W.gtrans (mv.mono sub) a4)
def AA(d:Value)(W:WalksS prog w A.in1 J fp wr G n P St)(bt:Nat->Nat->Bool)(aS:CmpOf prog w A.in1 .Lt P bt)(D:Addr)(hD:D ∉ fp){s:Shared}{c:Nat}(st:St 0 s)
  (hg:s.heap.get? D=some { cls:=.type "list",dict:=none,data:=.seq #[] c,slots:=#[] })
  (h0:n=0->∀ z,Moved (D::wr) G s z->R (.ok (.ret d)) z) (hR:0 < n->∀ v z,P (argBest bt (n - 1)) v->Moved (D::wr) G s z->R (.ok (.ret v)) z):codeAny (model prog w) A (.builtin "min.loop" ⟨[.ref J,.none,.ref D],[("default",d)]⟩) R s:=by
 have a3:D ∉ wr:=λ h=>hD (W.sub _ h);have sub:∀ a∈wr,a∈D::wr:=λ a ha=>QM _ ha;have nm:(toString "min" ++ toString ".loop":String) = "min.loop":=by decide
 have nD:∀ {a:Addr},a ∉ D::wr->D ≠ a:=λ ha h=>ha (by rw [h];exact QP);refine(Sz F.entry_min_loop ?_);rw [(R6 SM _)]
 show wpAny _ A.in1 ((seqItems? (.ref D)) >>= _) _ _ s
 refine My (Rg hg rfl ?_)
 show wpAny _ A.in1 ((tryCatch (pyNext (.ref J)) _) >>= _) _ _ s
 by_cases hn:n=0
 ·refine My (Sh (W.done s _ _ (by rw [hn];exact st) λ z mv=>?_));refine My (T1 (QI ?_));exact h0 hn z (mv.mono sub)
 ·refine My (Sh (W.item 0 s _ _ (by omega) st λ v z hP a4 mv=>?_));have aX:=mv.heap D _ a3 hg
  show wpAny _ A.in1 ((updateSeq D (λ _=>#[v,v])) >>= _) _ _ _
  refine My ?_;refine(R4 aX rfl ?_);rw [nm];refine QI ⟨Sv SM _,Dz _ W bt aS D hD _ 0 _ v _ rfl (by omega) (W.frame _ z _ z.toks a4 (QK _) λ a ha o e=>?_) hP (Rt _ aX rfl) λ v' z' a5 a6=>?_⟩
  ·exact(Q9 _ _ (λ h:D=a=>hD (by rw [h];exact ha))).trans e
  ·exact hR (by omega) v' z' a5 (Uq W.gtrans ((mv.mono sub).then_heap (by first|exact QK _|exact SI _|omega) λ a o ha e=>(Q9 _ _ (nD ha)).trans e) a6)
end
def BZ(a d:Value):argsOk "min" ⟨[a],[("default",d)]⟩:=by unfold argsOk;kernel_rfl
def BJ{prog:Program}{w:World}{A:Around}{E:Value->Shared->Prop}{s:Shared}{x d:Value}{Q:Value->Shared->Prop}
  (h:wpAny (model prog w) A.in1 (pyIter x) (λ it z=>∃ J fp wr G n P St bt,it=.ref J/\WalksS prog w A.in1 J fp wr G n P St/\St 0 z/\(∀ b∈fp,b < z.heap.objs.size)/\CmpOf prog w A.in1 .Lt P bt /\
   (n=0->∀ z',Moved wr G z z'->Q d z')/\(0 < n->∀ v z',P (argBest bt (n - 1)) v->Moved wr G z z'->Q v z')) E s) :
  wpAny (model prog w) A (call (.builtin "min") [x] [("default",d)]) Q E s:=by
 have nm:(toString "min" ++ toString ".loop":String) = "min.loop":=by decide
 refine m7 F.kind_min F.plain_min F.entry_min (BZ x d) ?_
 show wpAny _ A.in1 (Builtin.Builtins.bindParams "min" ["key", "default"] 0 ⟨[],[("default",d)]⟩ >>= _) _ _ s
 refine My (wpAny_of_eq (show Builtin.Builtins.bindParams "min" ["key", "default"] 0 ⟨[],[("default",d)]⟩=pure [none,some d] from rfl) ?_);refine My (QI ?_);refine My (thn h λ it z hz=>?_);obtain⟨J,fp,wr,G,n,P,St,bt,rfl,W,st,aX,aS,h0,hQ⟩:=hz;refine My (Se ?_);have hD:z.heap.objs.size ∉ fp:=λ hm=>Ry _ (aX _ hm);rw [nm];refine QI ⟨Sv SM _,AA d W bt aS z.heap.objs.size hD (W.frame 0 z _ z.toks st (QK _) λ b _ o e=>QC _ e) (QN _ rfl) (λ hn z' mv=>?_) λ hn v z' hP mv=>?_⟩
 ·exact h0 hn z' (UW (tk:=z.toks) mv (QK _))
 ·exact hQ hn v z' hP (UW (tk:=z.toks) mv (QK _))
def yk(d:Int)(H:Hp)(Q:VK):List Int->Prop:=λ ns=>(ns=[]->Q (.int d) H)/\∀ M,M∈ns->(∀ a∈ns,M<=a)->Q (.int M) H
def FY:List V->List V->Hp->VK->Prop:=λ vs zs H Q=>match vs,zs with
 | [.ref p],[.int d]=>aH (az H p) (dR (yk d H Q))
 | _,_=>False
def HS(p:Addr)(d:Int)(H:Hp)(Q:VK):FY [.ref p] [.int d] H Q=aH (az H p) (dR (yk d H Q)):=rfl
def xb{X:Cx}(hc:X.calm=true):yu X (.builtin "min") ["default"] FY:=by
 intro pins s σ H vs us zs ws Q I r rz h;unfold FY at h;split at h
 ·rename_i p d;obtain⟨xs,e,ns,rfl,h0,q⟩:=ai h
  cases rz with
  | cons rd rz'=>
  cases rz'
  cases r with
  | cons r rr=>
   cases rr;cases r;obtain⟨its,rv,pl,hz⟩:=I.list (SqL.of (bp e));have aX:p < s.heap.objs.size:=by obtain⟨_,e,_⟩:=pl.isList;exact QH e
   have hlen:its.length=ns.length:=by have:=rv.length;simpa using this.symm
   have hsz:its.toArray.size=ns.length:=by simp [hlen]
   have hP:∀ (i:Nat) (v:Value),its.toArray[i]? = some v->∃ t,v=.int (ns.getD i 0) t:=λ i v hP=>by
    have hv:its[i]? = some v:=by simpa using hP
    have hi:i < ns.length:=by rw [←hlen];exact(QD.mp hv).1
    obtain⟨u,hu,ru⟩:=rv.get (i:=i) (x:=.int (ns.getD i 0)) (by rw [QL,QB hi];simp [List.getD,QB hi]);rw [hv] at hu;cases hu;exact ru
   refine BJ (Si pl.isList ⟨s.heap.objs.size,_,_,_,_,_,_,λ i j=>decide (ns.getD i 0 < ns.getD j 0),rfl,(UL (show X.A.in1.handled=none from I.ok.hd hc) _ p (QY aX) its.toArray).toS,⟨⟨_,QN _ rfl,rfl,rfl⟩,pl.isList.push _⟩,λ b hb=>?_,CmpOf.ints_lt (λ i=>ns.getD i 0) λ i v h=>hP i v h,λ hn s' hm=>?_,λ hn v s' hv hm=>?_⟩)
   ·rw [Ri]
    rcases Q1.mp hb with rfl|hb
    ·exact RU _
    ·rw [QF.mp hb];exact Tn aX
   ·obtain⟨hp,g,d',tk,os⟩:=s'
    have kp:∀ b o,s.heap.get? b=some o->hp.get? b=some o:=λ b o e=>hm.heap b o (λ aS=>by
     have:b=s.heap.objs.size:=by simpa using aS
     subst this;exact absurd (QH e) (Ry _)) (QC _ e)
    have e1:g=s.gens:=hm.gens;have e2:d'=s.drawn:=hm.drawn;have e3:os=s.os:=hm.os;subst e1 e2 e3;exact⟨.int d,H,I.kept (t':=tk) kp,rd,h0 (RV (by rw [←hsz];exact hn))⟩
   ·obtain⟨hp,g,d',tk,os⟩:=s'
    have kp:∀ b o,s.heap.get? b=some o->hp.get? b=some o:=λ b o e=>hm.heap b o (λ aS=>by
     have:b=s.heap.objs.size:=by simpa using aS
     subst this;exact absurd (QH e) (Ry _)) (QC _ e)
    have e1:g=s.gens:=hm.gens;have e2:d'=s.drawn:=hm.drawn;have e3:os=s.os:=hm.os;subst e1 e2 e3;obtain⟨b1,b2⟩:=argBest_lt (λ i=>ns.getD i 0) (its.toArray.size - 1);have a3:=hP _ v hv;generalize argBest (λ i j=>decide (ns.getD i 0 < ns.getD j 0)) (its.toArray.size - 1)=k at b1 b2 a3;rw [hsz] at b1 b2 hn;have hk:k < ns.length:=by omega
    refine⟨.int (ns.getD k 0),H,I.kept (t':=tk) kp,a3,q _ ?_ λ a ha=>?_⟩
    ·rw [List.getD,QB hk];exact Sd hk
    ·obtain⟨j,hj,rfl⟩:=SH ha;have:=b2 j (by omega);rw [show ns.getD j 0=ns[j] by rw [List.getD,QB hj];rfl] at this;exact this
 ·exact h.elim
section
variable {prog:Program}{w:World}{A:Around}{R:Result->Shared->Prop}{J:Addr}{fp wr:List Addr}{G:Array GenState->Array GenState->Prop}{n:Nat}{P:Nat->Value->Prop}{St:Nat->Shared->Prop}
def DA(kv:List (Str × Value))(W:WalksS prog w A.in1 J fp wr G n P St)(bt:Nat->Nat->Bool)(a5:CmpOf prog w A.in1 .Gt P bt)(D:Addr)(hD:D ∉ fp) :
  ∀ (k j:Nat) (s:Shared) (b:Value) (c:Nat),n - (j+1)=k->j+1<=n->St (j+1) s->P (argBest bt j) b->s.heap.get? D=some { cls:=.type "list",dict:=none,data:=.seq #[b,b] c,slots:=#[] } →
  (∀ v z,P (argBest bt (n - 1)) v->Moved (D::wr) G s z->R (.ok (.ret v)) z)->codeAny (model prog w) A (.builtin "max.loop" ⟨[.ref J,.none,.ref D],kv⟩) R s:=by
 have a6:D ∉ wr:=λ h=>hD (W.sub _ h);have sub:∀ a∈wr,a∈D::wr:=λ a ha=>QM _ ha;have nm:(toString "max" ++ toString ".loop":String) = "max.loop":=by decide
 have nD:∀ {a:Addr},a ∉ D::wr->D ≠ a:=λ ha h=>ha (by rw [h];exact QP);intro k
 induction k with
 | zero=>
  intro j s b c hk hj st hb hg hR;have a7:j+1=n:=by omega
  refine(Sz F.entry_max_loop ?_);rw [(R6 SN _)]
  show wpAny _ A.in1 ((seqItems? (.ref D)) >>= _) _ _ s
  refine My (Rg hg rfl ?_)
  show wpAny _ A.in1 ((tryCatch (pyNext (.ref J)) _) >>= _) _ _ s
  refine My (Sh (W.done s _ _ (a7 ▸ st) λ z mv=>?_));have aS:=mv.heap D _ a6 hg
  show wpAny _ A.in1 ((updateSeq D (λ _=>#[])) >>= _) _ _ _
  refine My ?_;refine(R4 aS rfl (My (RY (QI ?_))));exact hR b _ (by rw [←a7];exact hb) ((mv.mono sub).then_heap (tk:=z.toks) (QK _) λ a o ha e=>(Q9 _ _ (nD ha)).trans e)
 | succ k ih=>
  intro j s b c hk hj st hb hg hR;have aX:j+1 < n:=by omega
  refine(Sz F.entry_max_loop ?_);rw [(R6 SN _)]
  show wpAny _ A.in1 ((seqItems? (.ref D)) >>= _) _ _ s
  refine My (Rg hg rfl ?_)
  show wpAny _ A.in1 ((tryCatch (pyNext (.ref J)) _) >>= _) _ _ s
  refine My (Sh (W.item (j+1) s _ _ aX st λ v z hP a8 mv=>?_));have aS:=mv.heap D _ a6 hg
  show wpAny _ A.in1 ((tryCatch (holding [v,v] (richCompare .Gt v b >>= _)) _) >>= _) _ _ _
  refine My (Sh (R5 (My (a5 (j+1) (argBest bt j) v b _ _ _ hP hb ?_))));refine(My (R5 (RZ ?_)));refine(My (RY (QI ?_)))
  cases hbt:bt (j+1) (argBest bt j) with
  | true=>
   simp only [Tv];refine My ?_;refine(R4 aS rfl (My (RY ?_)));rw [nm];refine QI ⟨Sv SN _,ih (j+1) _ v _ (by omega) aX (W.frame _ z _ z.toks a8 (QK _) λ a ha o e=>?_) (by simp only [argBest,hbt,Tv];exact hP) (Rt _ aS rfl) λ v' z' a3 a4=>?_⟩
   ·exact(Q9 _ _ (λ h:D=a=>hD (by rw [h];exact ha))).trans e
   ·exact hR v' z' a3 (Uq W.gtrans ((mv.mono sub).then_heap (by first|exact QK _|exact SI _|omega) λ a o ha e=>(Q9 _ _ (nD ha)).trans e) a4)
  | false=>
   simp only [Sf,Tq];refine(My (RY ?_));rw [nm];refine QI ⟨Sv SN _,ih (j+1) _ b c (by omega) aX a8 (by simp only [argBest,hbt,Sf,Tq];exact hb) aS λ v' z' a3 a4=>?_⟩;exact hR v' z' a3 (Uq W.gtrans (mv.mono sub) a4)
def AB(d:Value)(W:WalksS prog w A.in1 J fp wr G n P St)(bt:Nat->Nat->Bool)(aS:CmpOf prog w A.in1 .Gt P bt)(D:Addr)(hD:D ∉ fp){s:Shared}{c:Nat}(st:St 0 s)
  (hg:s.heap.get? D=some { cls:=.type "list",dict:=none,data:=.seq #[] c,slots:=#[] })
  (h0:n=0->∀ z,Moved (D::wr) G s z->R (.ok (.ret d)) z) (hR:0 < n->∀ v z,P (argBest bt (n - 1)) v->Moved (D::wr) G s z->R (.ok (.ret v)) z):codeAny (model prog w) A (.builtin "max.loop" ⟨[.ref J,.none,.ref D],[("default",d)]⟩) R s:=by
 have a3:D ∉ wr:=λ h=>hD (W.sub _ h);have sub:∀ a∈wr,a∈D::wr:=λ a ha=>QM _ ha;have nm:(toString "max" ++ toString ".loop":String) = "max.loop":=by decide
 have nD:∀ {a:Addr},a ∉ D::wr->D ≠ a:=λ ha h=>ha (by rw [h];exact QP);refine(Sz F.entry_max_loop ?_);rw [(R6 SN _)]
 show wpAny _ A.in1 ((seqItems? (.ref D)) >>= _) _ _ s
 refine My (Rg hg rfl ?_)
 show wpAny _ A.in1 ((tryCatch (pyNext (.ref J)) _) >>= _) _ _ s
 by_cases hn:n=0
 ·refine My (Sh (W.done s _ _ (by rw [hn];exact st) λ z mv=>?_));refine My (T1 (QI ?_));exact h0 hn z (mv.mono sub)
 ·refine My (Sh (W.item 0 s _ _ (by omega) st λ v z hP a4 mv=>?_));have aX:=mv.heap D _ a3 hg
  show wpAny _ A.in1 ((updateSeq D (λ _=>#[v,v])) >>= _) _ _ _
  refine My ?_;refine(R4 aX rfl ?_);rw [nm];refine QI ⟨Sv SN _,DA _ W bt aS D hD _ 0 _ v _ rfl (by omega) (W.frame _ z _ z.toks a4 (QK _) λ a ha o e=>?_) hP (Rt _ aX rfl) λ v' z' a5 a6=>?_⟩
  ·exact(Q9 _ _ (λ h:D=a=>hD (by rw [h];exact ha))).trans e
  ·exact hR (by omega) v' z' a5 (Uq W.gtrans ((mv.mono sub).then_heap (by first|exact QK _|exact SI _|omega) λ a o ha e=>(Q9 _ _ (nD ha)).trans e) a6)
end
def B0(a d:Value):argsOk "max" ⟨[a],[("default",d)]⟩:=by unfold argsOk;kernel_rfl
def BL{prog:Program}{w:World}{A:Around}{E:Value->Shared->Prop}{s:Shared}{x d:Value}{Q:Value->Shared->Prop}
  (h:wpAny (model prog w) A.in1 (pyIter x) (λ it z=>∃ J fp wr G n P St bt,it=.ref J/\WalksS prog w A.in1 J fp wr G n P St/\St 0 z/\(∀ b∈fp,b < z.heap.objs.size)/\CmpOf prog w A.in1 .Gt P bt /\
   (n=0->∀ z',Moved wr G z z'->Q d z')/\(0 < n->∀ v z',P (argBest bt (n - 1)) v->Moved wr G z z'->Q v z')) E s) :
  wpAny (model prog w) A (call (.builtin "max") [x] [("default",d)]) Q E s:=by
 have nm:(toString "max" ++ toString ".loop":String) = "max.loop":=by decide
 refine m7 F.kind_max F.plain_max F.entry_max (B0 x d) ?_
 show wpAny _ A.in1 (Builtin.Builtins.bindParams "max" ["key", "default"] 0 ⟨[],[("default",d)]⟩ >>= _) _ _ s
 refine My (wpAny_of_eq (show Builtin.Builtins.bindParams "max" ["key", "default"] 0 ⟨[],[("default",d)]⟩=pure [none,some d] from rfl) ?_);refine My (QI ?_);refine My (thn h λ it z hz=>?_);obtain⟨J,fp,wr,G,n,P,St,bt,rfl,W,st,aX,aS,h0,hQ⟩:=hz;refine My (Se ?_);have hD:z.heap.objs.size ∉ fp:=λ hm=>Ry _ (aX _ hm);rw [nm];refine QI ⟨Sv SN _,AB d W bt aS z.heap.objs.size hD (W.frame 0 z _ z.toks st (QK _) λ b _ o e=>QC _ e) (QN _ rfl) (λ hn z' mv=>?_) λ hn v z' hP mv=>?_⟩
 ·exact h0 hn z' (UW (tk:=z.toks) mv (QK _))
 ·exact hQ hn v z' hP (UW (tk:=z.toks) mv (QK _))
def yl(d:Int)(H:Hp)(Q:VK):List Int->Prop:=λ ns=>(ns=[]->Q (.int d) H)/\∀ M,M∈ns->(∀ a∈ns,a<=M)->Q (.int M) H
def Ga:List V->List V->Hp->VK->Prop:=λ vs zs H Q=>match vs,zs with
 | [.ref p],[.int d]=>aH (az H p) (dR (yl d H Q))
 | _,_=>False
def HV(p:Addr)(d:Int)(H:Hp)(Q:VK):Ga [.ref p] [.int d] H Q=aH (az H p) (dR (yl d H Q)):=rfl
def xf{X:Cx}(hc:X.calm=true):yu X (.builtin "max") ["default"] Ga:=by
 intro pins s σ H vs us zs ws Q I r rz h;unfold Ga at h;split at h
 ·rename_i p d;obtain⟨xs,e,ns,rfl,h0,q⟩:=ai h
  cases rz with
  | cons rd rz'=>
  cases rz'
  cases r with
  | cons r rr=>
   cases rr;cases r;obtain⟨its,rv,pl,hz⟩:=I.list (SqL.of (bp e));have aX:p < s.heap.objs.size:=by obtain⟨_,e,_⟩:=pl.isList;exact QH e
   have hlen:its.length=ns.length:=by have:=rv.length;simpa using this.symm
   have hsz:its.toArray.size=ns.length:=by simp [hlen]
   have hP:∀ (i:Nat) (v:Value),its.toArray[i]? = some v->∃ t,v=.int (ns.getD i 0) t:=λ i v hP=>by
    have hv:its[i]? = some v:=by simpa using hP
    have hi:i < ns.length:=by rw [←hlen];exact(QD.mp hv).1
    obtain⟨u,hu,ru⟩:=rv.get (i:=i) (x:=.int (ns.getD i 0)) (by rw [QL,QB hi];simp [List.getD,QB hi]);rw [hv] at hu;cases hu;exact ru
   refine BL (Si pl.isList ⟨s.heap.objs.size,_,_,_,_,_,_,λ i j=>decide (ns.getD i 0 > ns.getD j 0),rfl,(UL (show X.A.in1.handled=none from I.ok.hd hc) _ p (QY aX) its.toArray).toS,⟨⟨_,QN _ rfl,rfl,rfl⟩,pl.isList.push _⟩,λ b hb=>?_,CmpOf.ints_gt (λ i=>ns.getD i 0) λ i v h=>hP i v h,λ hn s' hm=>?_,λ hn v s' hv hm=>?_⟩)
   ·rw [Ri]
    rcases Q1.mp hb with rfl|hb
    ·exact RU _
    ·rw [QF.mp hb];exact Tn aX
   ·obtain⟨hp,g,d',tk,os⟩:=s'
    have kp:∀ b o,s.heap.get? b=some o->hp.get? b=some o:=λ b o e=>hm.heap b o (λ aS=>by
     have:b=s.heap.objs.size:=by simpa using aS
     subst this;exact absurd (QH e) (Ry _)) (QC _ e)
    have e1:g=s.gens:=hm.gens;have e2:d'=s.drawn:=hm.drawn;have e3:os=s.os:=hm.os;subst e1 e2 e3;exact⟨.int d,H,I.kept (t':=tk) kp,rd,h0 (RV (by rw [←hsz];exact hn))⟩
   ·obtain⟨hp,g,d',tk,os⟩:=s'
    have kp:∀ b o,s.heap.get? b=some o->hp.get? b=some o:=λ b o e=>hm.heap b o (λ aS=>by
     have:b=s.heap.objs.size:=by simpa using aS
     subst this;exact absurd (QH e) (Ry _)) (QC _ e)
    have e1:g=s.gens:=hm.gens;have e2:d'=s.drawn:=hm.drawn;have e3:os=s.os:=hm.os;subst e1 e2 e3;obtain⟨b1,b2⟩:=argBest_gt (λ i=>ns.getD i 0) (its.toArray.size - 1);have a3:=hP _ v hv;generalize argBest (λ i j=>decide (ns.getD i 0 > ns.getD j 0)) (its.toArray.size - 1)=k at b1 b2 a3;rw [hsz] at b1 b2 hn;have hk:k < ns.length:=by omega
    refine⟨.int (ns.getD k 0),H,I.kept (t':=tk) kp,a3,q _ ?_ λ a ha=>?_⟩
    ·rw [List.getD,QB hk];exact Sd hk
    ·obtain⟨j,hj,rfl⟩:=SH ha;have:=b2 j (by omega);rw [show ns.getD j 0=ns[j] by rw [List.getD,QB hj];rfl] at this;exact this
 ·exact h.elim
def bH(kv:List (Int × Int))(c:Int):Option Int:=(kv.find? λ p=>decide (p.1=c)).map λ p=>p.2
def lT(kv:List (Int × Int)):List (Key × V):=kv.map λ p=>(Sum.inl p.1,V.int p.2)
def J2(ka kb:List (Int × Int)):Bool:=ka.length == kb.length && ka.all λ p=>bH kb p.1 == some p.2
def kP{p:Int × Int}{r:List (Int × Int)}{c:Int}(e:p.1=c):bH (p::r) c=some p.2:=by simp [bH,S0,e]
def kR{p:Int × Int}{r:List (Int × Int)}{c:Int}(e:¬ p.1=c):bH (p::r) c=bH r c:=by simp [bH,S0,e]
def Fw{a c:Int}(h:¬ a=c):¬ (Sum.inl a:Key)=Sum.inl c:=λ e=>h (Sum.inl.inj e)
def su:∀ (kv:List (Int × Int)) (c:Int),eP (lT kv) (.inl c)=(bH kv c).map V.int
 | [],c=>rfl
 | p::r,c=>by
  by_cases h:p.1=c
  ·rw [kP h];exact cc (p:=(Sum.inl p.1,V.int p.2)) (r:=lT r) (RS Sum.inl h)
  ·rw [kR h,←su r c];exact cg (p:=(Sum.inl p.1,V.int p.2)) (r:=lT r) (Fw h)
def yG{kv:List (Int × Int)}{c:Int}(v:Int)(h:bH kv c=none):lY (lT kv) (.inl c) (.int v)=lT (kv++[(c,v)]):=by
 rw [uR _ (by rw [su,h];rfl)];unfold lT;rw [map_append];rfl
def E7:∀ {kb:List (Int × Int)}{ys:List (Key × Value)},KV (lT kb) ys->∀ c:Int,(bH kb c=none->valueAt ys (.inl c)=none)/\∀ j,bH kb c=some j->∃ t,valueAt ys (.inl c)=some (.int j t)
 | [],_,.nil,c=>⟨λ _=>rfl,λ j h=>by cases h⟩
 | p::r,(k,v)::ys,.cons hk t,c=>by
  obtain⟨i1,i2⟩:=E7 (kb:=r) (ys:=ys) t c;obtain⟨aX,a3⟩:=hk;have aS:Sum.inl p.1=k:=aX;obtain⟨t',hv⟩:∃ t,v=.int p.2 t:=a3;unfold valueAt at *
  by_cases h:p.1=c
  ·have e:decide (k=Sum.inl c)=true:=Q4 (by rw [←aS,h]);rw [kP h,S0,e];refine⟨(λ z=>by cases z),λ j hj=>?_⟩;cases hj;exact⟨t',by rw [hv];rfl⟩
  ·have e:decide (k=Sum.inl c)=false:=Ro (by rw [←aS];exact Fw h);rw [kR h,S0,e];exact⟨i1,i2⟩
def u5{A:Around}{s:Shared}{kb:List (Int × Int)}{ys:List (Key × Value)}(hy:KV (lT kb) ys):∀ {ka:List (Int × Int)}{xs:List (Key × Value)},KV (lT ka) xs->W.KeqHits A s ys xs (ka.all λ p=>bH kb p.1 == some p.2)
 | [],_,.nil=>.nil
 | p::r,(k,v)::xs,.cons hk t=>by
  have ih:=u5 (A:=A) (s:=s) hy (ka:=r) (xs:=xs) t;obtain⟨aX,a3⟩:=hk;have aS:Sum.inl p.1=k:=aX;obtain⟨t',hv⟩:∃ t,v=.int p.2 t:=a3;subst aS;subst hv;obtain⟨a1,a2⟩:=E7 hy p.1;rw [UI]
  cases hl:bH kb p.1 with
  | none=>
   have:=W.KeqHits.miss (A:=A) (s:=s) (v:=.int p.2 t') (r:=xs) (a1 hl);exact this
  | some j=>
   obtain⟨t2,h2⟩:=a2 j hl;have:=W.KeqHits.hit h2 (PySem.SeqAt.EqAt.int_int (A:=A) (s:=s) p.2 t' j t2) ih
   rw [show (some j == some p.2)=(p.2 == j) by
    by_cases e:j=p.2
    ·subst e;simp
    ·have e':¬ p.2=j:=λ z=>e z.symm;rw [show (some j == some p.2)=false from beq_false_of_ne (λ z=>e (Q2 z)),show (p.2 == j)=false from beq_false_of_ne e']]
   exact this
def Pq:R2:=λ x y H Q=>∃ a b ka kb,x=.ref a/\y=.ref b/\H a=some (.dK (lT ka))/\H b=some (.dK (lT kb))/\Q (.bl (J2 ka kb)) H
def GP{a b:Addr}{ka kb:List (Int × Int)}{H:Hp}{Q:VK}(ha:H a=some (.dK (lT ka)))(hb:H b=some (.dK (lT kb)))(q:Q (.bl (J2 ka kb)) H):JZ Pq (.ref a) Q (.ref b) H:=⟨a,b,ka,kb,rfl,rfl,ha,hb,q⟩
def Hy{X:Cx}(hu:X.A.units+1 < cLine):OpR X (compareOp .Eq) Pq:=by
 intro pins s σ H x y v u Q I rx ry h;obtain⟨a,b,ka,kb,rfl,rfl,ha,hb,q⟩:=h;cases rx;cases ry;obtain⟨_,za,xs,kx,dx⟩:=Gz I.hok ha;obtain⟨_,zb,ys,ky,dy⟩:=Gz I.hok hb;have lx:xs.length=ka.length:=by rw [←(Paired.length kx)];unfold lT;rw [length_map]
 have ly:ys.length=kb.length:=by rw [←(Paired.length ky)];unfold lT;rw [length_map]
 refine W.keq_eq (r:=ka.all λ p=>bH kb p.1 == some p.2) za zb dx dy (by omega) (λ _=>u5 ky kx) ?_;rw [lx,ly];exact⟨.bl (J2 ka kb),H,I,rfl,q⟩
abbrev PKy:=List Int × List Int
section
variable {prog:Program}{w:World}
end
section
variable {P:Program}{w:World}{H:Hp}{h:Heap}{a:Addr}
end
section
variable {X:Cx}{pins:List (Addr × Obj)}{σ:St}{H:Hp}{s:Shared}{d b:Addr}{k:PKy}{Z:List PKy}{A:Around}{E:Value->Shared->Prop}
end
section
variable {X:Cx}
end
def Kg:List V->Hp->VK->Prop:=λ vs H Q=>∃ p ns,vs=[.ref p]/\H p=some (.lst (ns.map V.int))/\ns.length < 64/\∀ ms:List Int,ms.Perm ns->ms.Pairwise (·<=·)->jb (.lst (ms.map V.int)) H Q
def CF{p:Addr}{ns:List Int}{H:Hp}{Q:VK}(e:H p=some (.lst (ns.map V.int)))(hl:ns.length < 64)(q:∀ ms:List Int,ms.Perm ns->ms.Pairwise (·<=·)->jb (.lst (ms.map V.int)) H Q):Kg [.ref p] H Q:=⟨p,ns,rfl,e,hl,q⟩
def w6{X:Cx}:cn X (.builtin "sorted") Kg:=by
 intro pins s σ H vs us Q I r h;obtain⟨p,ns,rfl,e,hl,q⟩:=h
 cases r with
 | cons r rr=>
  cases rr;cases r;obtain⟨z,its,n,r',hlen,hg⟩:=I.lstM e;rw [QE] at hlen;have hI:IntsAre its ns:=mW r';refine sorted_ints (vs:=its) ⟨_,hg,rfl,n,rfl⟩ hI (by omega) λ out aS a1 a2 a3=>?_;have fr:=I.hok.fresh (a:=s.heap.objs.size+1) (SI _);obtain⟨e',aX⟩:=sortedAll_at s.heap its out;refine⟨.ref (s.heap.objs.size+1),_,I.laid (t':=s.toks) (h':=sortedAll s.heap its out) (o:=.lst (aS.map V.int)) (λ b u hb=>sortedAll_old hb) (SI _) ⟨?_,out.toList,e',jI a1,?_⟩,rfl,q aS a2 a3 _ _ fr (Ext.new fr) ar⟩
  ·rw [QE,a2.length_eq];exact aj (by omega)
  ·rw [Array.toArray_toList];exact aX
end L2
namespace PH
def dS(ns:List Int):Prop:=ns.length<=8/\∀ n∈ns,1<=n/\n<=1000000000
def ae:List Int->Int
 | []=>1
 | n::r=>n * ae r
def fO:List Int->List Int
 | []=>[]
 | _::r=>ae r::fO r
def ao:List Int->Int->List Int
 | [],_=>[]
 | n::r,x=>x / ae r % n::ao r x
def aU:∀ ns ms:List Int,ae (ns++ms)=ae ns * ae ms
 | [],ms=>by simp [ae]
 | n::r,ms=>by simp only [Ue,ae,aU r ms,R1]
def jq(ns:List Int)(i:Nat)(z:Int)(h:ns[i]? = some z):ae (ns.take (i+1))=ae (ns.take i) * z:=by
 rw [RD,h,aU];simp [ae]
def da:∀ ns:List Int,(∀ n∈ns,1<=n/\n<=1000000000)->1<=ae ns/\ae ns<=1000000000 ^ ns.length
 | [],_=>by simp [ae]
 | n::r,h=>by
  obtain⟨h1,h2⟩:=da r λ m hm=>h m (QM _ hm);obtain⟨g1,g2⟩:=h n QP;refine⟨?_,?_⟩
  ·show 1<=n * ae r
   exact Int.le_trans (by omega) (Sm g1 h1 (by decide) (by omega):1 * 1<=n * ae r)
  ·show n * ae r<=1000000000 ^ (r.length+1)
   rw [UX,RW];exact Sm h2 g2 (by omega) (Int.le_trans (by omega) h2)
def Hi:∀ {k:Nat},k<=8->(1000000000:Int) ^ k<=1000000000 ^ 8
 | 0,_=>by decide
 | 1,_=>by decide
 | 2,_=>by decide
 | 3,_=>by decide
 | 4,_=>by decide
 | 5,_=>by decide
 | 6,_=>by decide
 | 7,_=>by decide
 | 8,_=>by decide
 | k+9,h=>by omega
def dS.prod{ns:List Int}(h:dS ns):1<=ae ns/\ae ns<=1000000000 ^ 8:=by
 obtain⟨a,b⟩:=da ns h.2;exact⟨a,Int.le_trans b (Hi h.1)⟩
def dS.take{ns:List Int}(h:dS ns)(i:Nat):dS (ns.take i):=⟨by have:=h.1;simp;omega,λ n hn=>h.2 n (RM hn)⟩
def dS.drop{ns:List Int}(h:dS ns)(i:Nat):dS (ns.drop i):=⟨by have:=h.1;simp;omega,λ n hn=>h.2 n (SR hn)⟩
def kU(ns:List Int)(i:Nat)(z:Int)(hi:i < ns.length)(h:ns[ns.length - 1 - i]? = some z):ns.drop (ns.length - (i+1))=z::ns.drop (ns.length - i):=by
 have e:ns.length - (i+1)=ns.length - 1 - i:=by omega
 have e2:ns.length - i=ns.length - 1 - i+1:=by omega
 rw [e,e2];obtain⟨hl,hz⟩:=QD.mp h;rw [←hz];exact List.drop_eq_getElem_cons hl
def mP(ns:List Int)(i:Nat)(z:Int)(hi:i < ns.length)(h:ns[ns.length - 1 - i]? = some z):ae (ns.drop (ns.length - (i+1)))=ae (ns.drop (ns.length - i)) * z:=by
 rw [kU ns i z hi h];exact RW _ _
def tG(ns:List Int)(i:Nat)(z:Int)(hi:i < ns.length)(h:ns[ns.length - 1 - i]? = some z):(fO (ns.drop (ns.length - (i+1)))).reverse=(fO (ns.drop (ns.length - i))).reverse++[ae (ns.drop (ns.length - i))]:=by
 rw [kU ns i z hi h];simp [fO]
def tu(ns:List Int)(x:Int)(i:Nat)(z:Int)(hi:i < ns.length)(h:ns[ns.length - 1 - i]? = some z):(ao (ns.drop (ns.length - (i+1))) x).reverse=(ao (ns.drop (ns.length - i)) x).reverse++[x / ae (ns.drop (ns.length - i)) % z]:=by
 rw [kU ns i z hi h];simp [ao]
def Bc(ns:List Int)(x:Int)(i:Nat)(z:Int)(hi:i < ns.length)(h:ns[ns.length - 1 - i]? = some z)(hz:0<=ae (ns.drop (ns.length - i))):x / ae (ns.drop (ns.length - (i+1)))=x / ae (ns.drop (ns.length - i)) / z:=by
 rw [mP ns i z hi h];exact(Te hz).symm
def mR:∀ ns:List Int,(fO ns).length=ns.length
 | []=>rfl
 | _::r=>by simp [fO,mR r]
def br:∀ (ns:List Int) (x:Int),(ao ns x).length=ns.length
 | [],_=>rfl
 | _::r,x=>by simp [ao,br r x]
def InR:List Int->List Int->Prop
 | [],[]=>True
 | n::r,x::xs=>(0<=x/\x < n)/\InR r xs
 | _,_=>False
def dP:List Int->List Int->Int
 | _::r,x::xs=>x * ae r+dP r xs
 | _,_=>0
def fj:∀ ns xs:List Int,(∀ n∈ns,1<=n/\n<=1000000000)->InR ns xs->0<=dP ns xs/\dP ns xs < ae ns
 | [],[],_,_=>by simp [dP,ae]
 | [],_::_,_,h=>h.elim
 | _::_,[],_,h=>h.elim
 | n::r,x::xs,hs,⟨⟨h0,h1⟩,h⟩=>by
  obtain⟨a,b⟩:=fj r xs (λ m hm=>hs m (QM _ hm)) h;have hp:=(da r λ m hm=>hs m (QM _ hm)).1;refine⟨?_,?_⟩
  ·show 0<=x * ae r+dP r xs
   have:=Sl h0 (show 0<=ae r by omega);omega
  ·show x * ae r+dP r xs < n * ae r
   have:=QW (show x+1<=n by omega) (show 0<=ae r by omega);rw [So,Uz] at this;omega
def mM:∀ ns xs:List Int,(∀ n∈ns,1<=n/\n<=1000000000)->InR ns xs->∀ c,ao ns (c * ae ns+dP ns xs)=xs
 | [],[],_,_,_=>rfl
 | [],_::_,_,h,_=>h.elim
 | _::_,[],_,h,_=>h.elim
 | n::r,x::xs,hs,⟨⟨h0,h1⟩,h⟩,c=>by
  have aS:=λ m hm=>hs m (QM n hm);obtain⟨a,b⟩:=fj r xs aS h;have hp:=(da r aS).1
  have e:c * (n * ae r)+(x * ae r+dP r xs)=(c * n+x) * ae r+dP r xs:=by
   rw [So,R1];omega
  show (c * (n * ae r)+(x * ae r+dP r xs)) / ae r % n::ao r (c * (n * ae r)+(x * ae r+dP r xs))=x::xs
  rw [e,mM r xs aS h]
  have e2:((c * n+x) * ae r+dP r xs) / ae r=c * n+x:=by
   rw [Int.add_comm,Int.add_mul_ediv_right _ _ (by omega),Int.ediv_eq_zero_of_lt a b,Rv]
  have e3:(c * n+x) % n=x:=by
   rw [Int.add_comm,U9,Sw h0 h1]
  rw [e2,e3]
def dM(ns xs:List Int)(hs:∀ n∈ns,1<=n/\n<=1000000000)(h:InR ns xs):ao ns (dP ns xs)=xs:=by
 have:=mM ns xs hs h 0
 rwa [SK,Rv] at this
def InR.len:∀ {ns xs:List Int},InR ns xs->xs.length=ns.length
 | [],[],_=>rfl
 | [],_::_,h=>h.elim
 | _::_,[],h=>h.elim
 | _::r,_::xs,⟨_,h⟩=>by simp [InR.len h]
def InR.split:∀ (ns:List Int) (x:Int),(∀ n∈ns,1<=n/\n<=1000000000)->InR ns (ao ns x)
 | [],_,_=>trivial
 | n::r,x,hs=>⟨⟨R3 _ (by have:=hs n QP;omega),RJ _ (by have:=hs n QP;omega)⟩,InR.split r x λ m hm=>hs m (QM _ hm)⟩
def InR.zeros:∀ r:List Int,(∀ n∈r,1<=n/\n<=1000000000)->InR r (r.map λ _=>0)
 | [],_=>trivial
 | n::r,h=>⟨⟨Int.le_refl 0,(by have:=h n QP;show (0:Int) < n;omega)⟩,InR.zeros r λ m hm=>h m (QM _ hm)⟩
open PySem L2
def vi:V->Int
 | .int i=>i
 | _=>0
def fY(x:V)(b:Int):Bool:=match x with
 | .int i=>decide (0<=i) && decide (i < b)
 | _=>false
def sv(H:Hp)(x:V):Prop:=(isW H x).isSome=true/\∀ q xs,x=.ref q->H q=some (.tup xs)->∀ y∈xs,(isW H y).isSome=true
def pV(ns:List Int):Option HO->Bool
 | some (.tup xs)=>decide (xs.length=ns.length) && (xs.zip ns).all (λ p=>fY p.1 p.2)
 | _=>false
def pW(ns:List Int)(x:V)(H:Hp):Bool:=match x with
 | .ref q=>pV ns (H q)
 | _=>false
def Ji{H H':Hp}(e:Ext H H'){x:V}{b:Bool}(h:isW H x=some b):isW H' x=some b:=by
 cases x with
 | ref p=>
  obtain⟨_,o,ho,_⟩:=kr h;rw [j6,ho] at h;rw [j6,e.at ho];exact h
 | _=>exact h
def rp{H:Hp}{q:Addr}{xs:List Int}(h:H q=some (.tup (xs.map V.int))):sv H (.ref q):=by
 refine⟨by rw [j6,h];rfl,λ q' ys e hy y hm=>?_⟩;cases e;rw [h] at hy;cases hy;obtain⟨i,_,rfl⟩:=QG.mp hm;rfl
def Fx:∀ {ns ys:List Int},InR ns ys->((ys.map V.int).zip ns).all (λ p=>fY p.1 p.2)=true
 | [],[],_=>rfl
 | [],_::_,h=>h.elim
 | _::_,[],h=>h.elim
 | n::ns,y::ys,⟨h,k⟩=>by
  simp only [RQ,Tc,UI,Fx k,Bool.and_true]
  show (decide (0<=y) && decide (y < n))=true
  simp [h.1,h.2]
def Aj{ns ys:List Int}{q:Addr}{H:Hp}(h:H q=some (.tup (ys.map V.int)))(hy:InR ns ys):pW ns (.ref q) H=true:=by
 show pV ns (H q)=true
 rw [h]
 show (decide _ && _)=true
 rw [Fx hy,Bool.and_true,T3,QE,hy.len]
def O8:∀ (xs:List V) (ns:List Int),xs.zip (ns.map V.int)=(xs.zip ns).map λ p=>(p.1,V.int p.2)
 | [],_=>rfl
 | _::_,[]=>rfl
 | x::xs,n::ns=>by simp [O8 xs ns]
def jc{α:Type}(l:List α):(l.filter λ _=>true)=l:=List.filter_eq_self.mpr λ _ _=>rfl
def Fo:∀ (ys ps:List Int),(((ys.map V.int).zip (ps.map V.int)).filter λ _=>true).map (λ z=>V.int (vi z.1 * vi z.2))=(List.zipWith (λ x p=>x * p) ys ps).map V.int
 | [],_=>rfl
 | _::_,[]=>rfl
 | y::ys,p::ps=>by
  have ih:=Fo ys ps;rw [jc] at ih ⊢;simp only [RQ,Tc,R9,ih];rfl
def aB(a:Int × Int):Int × Int:=(a.1,if a.1 > 1 then a.2 else 0)
def axL(axs:List (Int × Int)):List (List Int):=axs.map λ a=>[a.1,a.2]
def aJ(axs:List (Int × Int)):Int:=(axs.map λ a=>min 0 ((a.1 - 1) * a.2)).sum
def aG(axs:List (Int × Int)):Int:=(axs.map λ a=>max 0 ((a.1 - 1) * a.2)).sum
def fh(axs:List (Int × Int)):Prop:=axs.length<=8/\∀ a∈axs,1<=a.1/\a.1<=1000000000
structure p6(room first:Int)(axs:List (Int × Int)):Prop where
 ax:fh axs
 r1:1<=room
 r2:room<=1000000000000000000
 lo:0<=first+aJ (axs.map aB)
 hi:first+aG (axs.map aB) < room
def fh.kept{axs:List (Int × Int)}(h:fh axs):fh (axs.map aB):=⟨by rw [QE];exact h.1,λ a ha=>by
 obtain⟨b,hb,rfl⟩:=QG.mp ha;exact h.2 b hb⟩
def fh.sizes{axs:List (Int × Int)}(h:fh axs):dS (axs.map λ a=>a.1):=⟨by rw [QE];exact h.1,λ n hn=>by
 obtain⟨b,hb,rfl⟩:=QG.mp hn;exact h.2 b hb⟩
def fS(room first:Int)(l:Addr):List (Str × V):=fU "axes" (.ref l) (fU "first" (.int first) (fU "room" (.int room) []))
def Oi:¬ (("room":Str) = "axes"):=by decide +kernel
def Oh:¬ (("room":Str) = "first"):=by decide +kernel
def Ol:¬ (("first":Str) = "axes"):=by decide +kernel
def fb(room first:Int)(l:Addr):(fS room first l).lookup ("room":Str)=some (.int room):=by
 unfold fS;rw [aK,if_neg Oi,aK,if_neg Oh,aK,if_pos rfl]
def dJ(room first:Int)(l:Addr):(fS room first l).lookup ("first":Str)=some (.int first):=by
 unfold fS;rw [aK,if_neg Ol,aK,if_pos rfl]
def cV(room first:Int)(l:Addr):(fS room first l).lookup ("axes":Str)=some (.ref l):=by
 unfold fS;rw [aK,if_pos rfl]
def CD(room first:Int)(l:Addr){m:Str}(h1:¬ m = "axes")(h2:¬ m = "first")(h3:¬ m = "room"):(fS room first l).lookup m=none:=by
 unfold fS;rw [aK,if_neg h1,aK,if_neg h2,aK,if_neg h3];rfl
def aW:∀ ns:List Int,(∀ n∈ns,(1:Int)<=n)->1<=ae ns
 | [],_=>by simp [ae]
 | n::ns,h=>by
  have h1:=h n QP;have h2:=aW ns λ m hm=>h m (QM _ hm)
  show 1<=n * ae ns
  have:=Sm h1 h2 (by decide) (by omega);omega
def cp(a:Int × Int)(l:List (Int × Int)):aJ (a::l)=min 0 ((a.1 - 1) * a.2)+aJ l:=by unfold aJ;simp
def cq(a:Int × Int)(l:List (Int × Int)):aG (a::l)=max 0 ((a.1 - 1) * a.2)+aG l:=by unfold aG;simp
def eQ(xs ps:List Int):Int:=(List.zipWith (λ x p=>x * p) xs ps).sum
def tO{x p s:Int}(h0:0<=x)(h1:x<=s - 1):min 0 ((s - 1) * p)<=x * p/\x * p<=max 0 ((s - 1) * p):=by
 rcases Int.le_total 0 p with hp|hp
 ·have a:=Sl h0 hp;have b:=QW h1 hp;omega
 ·have a:=Sl h0 (show 0<=-p by omega);have b:=QW h1 (show 0<=-p by omega);rw [U8] at a b;rw [U8] at b;omega
def fB:∀ (axs:List (Int × Int)) (xs:List Int),InR (axs.map λ a=>a.1) xs->aJ axs<=eQ xs (axs.map λ a=>a.2)/\eQ xs (axs.map λ a=>a.2)<=aG axs
 | [],[],_=>by decide
 | [],_::_,h=>h.elim
 | _::_,[],h=>h.elim
 | a::r,x::xs,⟨⟨h0,h1⟩,h⟩=>by
  obtain⟨b1,b2⟩:=fB r xs h
  have e:eQ (x::xs) ((a::r).map λ a=>a.2)=x * a.2+eQ xs (r.map λ a=>a.2):=by
   unfold eQ;rw [map_cons,zipWith_cons_cons,sum_cons]
  rw [cp,cq,e];have aS:x < a.1:=h1;obtain⟨c1,c2⟩:=tO (p:=a.2) h0 (show x<=a.1 - 1 by omega);omega
def InR.bound:∀ {ns ys:List Int},dS ns->InR ns ys->∀ a∈ys,0<=a/\a < 1000000000:=λ {ns ys} hs hy=>by
 have:∀ {ns ys:List Int},(∀ n∈ns,1<=n/\n<=1000000000)->InR ns ys->∀ a∈ys,0<=a/\a < 1000000000:=by
  intro ns
  induction ns with
  | nil=>intro ys _ h a ha;cases ys with
   | nil=>cases ha
   | cons _ _=>exact h.elim
  | cons n r ih=>intro ys hs h a ha;cases ys with
   | nil=>exact h.elim
   | cons y ys=>
    have hn:=hs n QP;have hy:0<=y/\y < n:=h.1
    rcases Q1.mp ha with rfl|ha
    ·omega
    ·exact ih (λ m hm=>hs m (QM _ hm)) h.2 a ha
 exact this hs.2 hy
def fK(ns:List Int)(h:∀ n∈ns,(1:Int)<=n)(i:Nat):ae (ns.take i)<=ae ns:=by
 have e:ae ns=ae (ns.take i) * ae (ns.drop i):=by rw [←aU,List.take_append_drop]
 have a:=aW (ns.take i) λ n hn=>h n (RM hn);have b:=aW (ns.drop i) λ n hn=>h n (SR hn);rw [e];have:=Rx b (show 0<=ae (ns.take i) by omega);omega
def bw(cs:List Int)(a:Int × Int):List Int:=cs.flatMap λ c=>(List.range a.1.toNat).map λ (n:Nat)=>c+(n:Int) * a.2
def af(first:Int)(axs:List (Int × Int)):List Int:=axs.foldl bw [first]
def kB(cs:List Int)(a:Int × Int):(bw cs a).length=cs.length * a.1.toNat:=by
 unfold bw
 induction cs with
 | nil=>simp
 | cons c r ih=>rw [Tp,QX,ih,QE,Rb,Rr,Nat.add_mul];omega
def lE(first:Int)(axs:List (Int × Int))(a:Int × Int):af first (axs++[a])=bw (af first axs) a:=by
 unfold af;rw [foldl_append];rfl
def qI:∀ (axs:List (Int × Int)) (cs:List Int),(∀ a∈axs,(1:Int)<=a.1)->((axs.foldl bw cs).length:Int)=cs.length * ae (axs.map λ a=>a.1)
 | [],cs,_=>by simp [ae]
 | a::r,cs,h=>by
  have ha:=h a QP;rw [Sq,qI r (bw cs a) λ b hb=>h b (QM _ hb),kB,TL,RC (by omega),R1];rfl
def aF(first:Int)(axs:List (Int × Int))(h:∀ a∈axs,(1:Int)<=a.1):((af first axs).length:Int)=ae (axs.map λ a=>a.1):=by
 unfold af;rw [qI axs [first] h];simp
def qH:∀ (axs:List (Int × Int)) (cs:List Int) (M:Int),M∈axs.foldl bw cs ↔ ∃ c∈cs,∃ xs,InR (axs.map λ a=>a.1) xs/\M=c+eQ xs (axs.map λ a=>a.2)
 | [],cs,M=>by
  refine⟨λ h=>⟨M,h,[],trivial,by simp [eQ]⟩,λ ⟨c,hc,xs,hx,e⟩=>?_⟩
  match xs,hx with
  | [],_=>rw [e];simpa [eQ] using hc
 | a::r,cs,M=>by
  rw [Sq,qH r (bw cs a) M]
  have de:∀ (x:Int) (xs:List Int),eQ (x::xs) ((a::r).map λ a=>a.2)=x * a.2+eQ xs (r.map λ a=>a.2):=λ x xs=>by
   unfold eQ;rw [map_cons,zipWith_cons_cons,sum_cons]
  constructor
  ·rintro ⟨c,hc,xs,hx,e⟩;unfold bw at hc;obtain⟨c0,aS,aX⟩:=List.mem_flatMap.mp hc;obtain⟨n,hn,rfl⟩:=List.mem_map.mp aX;have a3:=List.mem_range.mp hn;refine⟨c0,aS,(n:Int)::xs,⟨⟨by omega,?_⟩,hx⟩,by rw [de,e];omega⟩
   show (n:Int) < a.1
   omega
  ·rintro ⟨c,hc,xs,hx,e⟩
   match xs,hx with
   | x::xs,⟨⟨h0,h1⟩,hx⟩=>
    have a4:x < a.1:=h1;refine⟨c+x * a.2,?_,xs,hx,by rw [e,de];omega⟩;unfold bw;refine List.mem_flatMap.mpr ⟨c,hc,List.mem_map.mpr ⟨x.toNat,List.mem_range.mpr (by omega),?_⟩⟩;rw [Int.toNat_of_nonneg h0]
def m4(first:Int)(axs:List (Int × Int))(M:Int):M∈af first axs ↔ ∃ xs,InR (axs.map λ a=>a.1) xs/\M=first+eQ xs (axs.map λ a=>a.2):=by
 unfold af;rw [qH];refine⟨λ ⟨c,hc,xs,hx,e⟩=>⟨xs,hx,by rw [e,List.mem_singleton.mp hc]⟩,λ ⟨xs,hx,e⟩=>⟨first,List.mem_singleton.mpr rfl,xs,hx,e⟩⟩
def ba(b:Int)(axs:List (Int × Int)):List (Int × Int):=axs.map λ a=>(a.1,a.2 * b)
def jj{b:Int}{axs:List (Int × Int)}(h:fh axs):fh (ba b axs):=⟨by unfold ba;rw [length_map];exact h.1,λ a ha=>by
 unfold ba at ha;obtain⟨c,hc,rfl⟩:=List.mem_map.mp ha;exact h.2 c hc⟩
def Ae(b:Int)(axs:List (Int × Int)):(ba b axs).map (λ a=>a.1)=axs.map λ a=>a.1:=by unfold ba;rw [map_map];rfl
def qA:∀ (ms xs:List Int) (n x:Int),ms.length=xs.length->dP (ms++[n]) (xs++[x])=dP ms xs * n+x
 | [],[],n,x,_=>by show x * ae []+dP [] []=0 * n+x;simp [ae,dP]
 | [],_::_,_,_,h=>by cases h
 | _::_,[],_,_,h=>by cases h
 | m::ms,y::xs,n,x,h=>by
  have ih:=qA ms xs n x (by simpa using h)
  show y * ae (ms++[n])+dP (ms++[n]) (xs++[x])=(y * ae ms+dP ms xs) * n+x
  rw [ih,aU,show ae [n]=n by simp [ae],So,R1];omega
def bE(ns:List Int):List (List Int):=(List.range (ae ns).toNat).map λ i=>ao ns ((i:Nat):Int)
def ll:∀ (p:List Int) (n x:Int),0 < n->ao (p++[n]) x=ao p (x / n)++[x % n]
 | [],n,x,hn=>by simp [ao,ae]
 | m::p,n,x,hn=>by
  have ih:=ll p n x hn
  show x / ae (p++[n]) % m::ao (p++[n]) x=x / n / ae p % m::(ao p (x / n)++[x % n])
  rw [ih,aU,show ae [n]=n by simp [ae],RW,Te (by omega)]
def qr(b:Nat):∀ a:Nat,List.range (a * b)=(List.range a).flatMap λ j=>(List.range b).map λ k=>j * b+k
 | 0=>by simp
 | a+1=>by
  rw [Nat.succ_mul,List.range_add,qr b a,List.range_succ,TK];simp
def mO(p:List Int)(n:Int)(hp:0<=ae p)(hn:0 < n):bE (p++[n])=(bE p).flatMap λ row=>(List.range n.toNat).map λ k=>row++[((k:Nat):Int)]:=by
 unfold bE
 have e:(ae (p++[n])).toNat=(ae p).toNat * n.toNat:=by
  rw [aU,show ae [n]=n by simp [ae]];obtain⟨a,ha⟩:=QU hp;obtain⟨b,hb⟩:=QU (show 0<=n by omega);rw [ha,hb];rfl
 rw [e,qr,U1,U2];congr 1;funext j;rw [Rq];apply TJ;intro k hk;have aS:k < n.toNat:=by simpa using hk
 show ao (p++[n]) ((j * n.toNat+k:Nat):Int)=ao p (j:Nat)++[((k:Nat):Int)]
 rw [ll p n _ hn]
 have c:((j * n.toNat+k:Nat):Int)=(k:Int)+(j:Int) * n:=by
  push_cast
  rw [show ((n.toNat:Nat):Int)=n by omega];omega
 rw [c,Int.add_mul_ediv_right _ _ (by omega),Int.ediv_eq_zero_of_lt (by omega) (by omega),Rv,U9,Sw (by omega) (by omega)]
def eY(ns:List Int):(bE ns).length=(ae ns).toNat:=by simp [bE]
def lK(ns:List Int)(h:∀ n∈ns,1<=n/\n<=1000000000)(i:Nat):ae (ns.take i)<=ae ns:=by
 have e:ae ns=ae (ns.take i) * ae (ns.drop i):=by rw [←aU,List.take_append_drop]
 have a:=(da (ns.take i) λ n hn=>h n (RM hn)).1;have b:=(da (ns.drop i) λ n hn=>h n (SR hn)).1;rw [e];have:=Rx b (show 0<=ae (ns.take i) by omega);omega
def p9(a:Int × Int)(h:1<=a.1):∀ (cs:List Int) (m:Nat),(bw cs a)[m]? = (cs[m / a.1.toNat]?).map λ c=>c+((m % a.1.toNat:Nat):Int) * a.2
 | [],m=>by simp [bw]
 | c::cs,m=>by
  have hs:0 < a.1.toNat:=by omega
  have e:bw (c::cs) a=((List.range a.1.toNat).map λ (n:Nat)=>c+(n:Int) * a.2)++bw cs a:=by unfold bw;rw [List.flatMap_cons]
  rw [e]
  by_cases hm:m < a.1.toNat
  ·rw [Rw (by rw [QE,Rb];exact hm),QL,Ux hm,Nat.div_eq_of_lt hm,Nat.mod_eq_of_lt hm];rfl
  ·rw [Rn (by rw [QE,Rb];omega),QE,Rb,p9 a h cs (m - a.1.toNat)]
   have e1:m / a.1.toNat=(m - a.1.toNat) / a.1.toNat+1:=by
    have:=Nat.div_eq_sub_div hs (show a.1.toNat<=m by omega);exact this
   have e2:m % a.1.toNat=(m - a.1.toNat) % a.1.toNat:=Nat.mod_eq_sub_mod (by omega);rw [e1,e2,List.getElem?_cons_succ]
def qJ:∀ (axs:List (Int × Int)) (cs:List Int) (k:Nat),(∀ a∈axs,(1:Int)<=a.1)->(axs.foldl bw cs)[k]? = (cs[((k:Int) / ae (axs.map λ a=>a.1)).toNat]?).map λ c=>c+eQ (ao (axs.map λ a=>a.1) (k:Int)) (axs.map λ a=>a.2)
 | [],cs,k,_=>by
  show cs[k]? = (cs[((k:Int) / 1).toNat]?).map λ c=>c+0
  rw [Int.ediv_one,QO];simp
 | a::r,cs,k,h=>by
  have ha:=h a QP;have hr:=λ b hb=>h b (QM a hb);have hp:1<=ae (r.map λ a=>a.1):=aW _ λ n hn=>by obtain⟨b,hb,rfl⟩:=QG.mp hn;exact hr b hb
  rw [Sq,qJ r (bw cs a) k hr,p9 a ha];generalize hP:ae (r.map λ a=>a.1)=P at hp;have aS:0<=(k:Int) / P:=Int.ediv_nonneg (by omega) (by omega)
  have e1:((k:Int) / P).toNat / a.1.toNat=((k:Int) / ae ((a::r).map λ a=>a.1)).toNat:=by
   show _=((k:Int) / (a.1 * ae (r.map λ a=>a.1))).toNat
   rw [hP,RW a.1 P,←Te (by omega)];generalize (k:Int) / P=m at aS;have hd:m / a.1=((m.toNat / a.1.toNat:Nat):Int):=by rw [Int.natCast_ediv,RC aS,RC (by omega)]
   rw [hd,QO]
  have e2:((((k:Int) / P).toNat % a.1.toNat:Nat):Int)=(k:Int) / P % a.1:=by rw [Int.natCast_emod,RC aS,RC (by omega)]
  rw [e1,e2,Option.map_map];congr 1;funext c
  show c+(k:Int) / P % a.1 * a.2+eQ (ao (r.map λ a=>a.1) (k:Int)) (r.map λ a=>a.2)=c+eQ ((k:Int) / ae (r.map λ a=>a.1) % a.1::ao (r.map λ a=>a.1) (k:Int)) (a.2::r.map λ a=>a.2)
  unfold eQ;rw [zipWith_cons_cons,sum_cons,hP];omega
def jv{first:Int}{axs:List (Int × Int)}{k:Nat}{c:Int}(h:∀ a∈axs,(1:Int)<=a.1)(hk:(af first axs)[k]? = some c):c=first+eQ (ao (axs.map λ a=>a.1) (k:Int)) (axs.map λ a=>a.2):=by
 unfold af at hk;rw [qJ axs [first] k h] at hk;obtain⟨c0,h1,h2⟩:=Option.map_eq_some_iff.mp hk;have:c0∈[first]:=mem_of_getElem? h1;rw [List.mem_singleton.mp this] at h2;exact h2.symm
def eZ:∀ (ns:List Int) (x:Int),(∀ n∈ns,(1:Int)<=n)->dP ns (ao ns x)=x % ae ns
 | [],x,_=>by show 0=x % 1;rw [Int.emod_one]
 | n::r,x,h=>by
  have ih:=eZ r x λ m hm=>h m (QM _ hm);have hp:=aW r λ m hm=>h m (QM _ hm)
  show x / ae r % n * ae r+dP r (ao r x)=x % (n * ae r)
  rw [ih];generalize ae r=P at hp;have a:=Uo x (n * P);have b:=Uo x P;have c:=Uo (x / P) n;have d:x / P / n=x / (n * P):=by rw [Te (by omega),RW P n]
  rw [d] at c;have e1:n * P * (x / (n * P))=P * (n * (x / (n * P))):=by rw [RW n P,R1]
  have e2:P * (x / P)=P * (x / P % n)+P * (n * (x / (n * P))):=by rw [←Int.mul_add,c]
  have e3:x / P % n * P=P * (x / P % n):=RW _ _;omega
def qi{ns:List Int}{i j:Int}(h:∀ n∈ns,(1:Int)<=n)(i0:0<=i)(i1:i < ae ns)(j0:0<=j)(j1:j < ae ns)(e:ao ns i=ao ns j):i=j:=by
 have a:=eZ ns i h;have b:=eZ ns j h;rw [Sw i0 i1] at a;rw [Sw j0 j1] at b;rw [←a,←b,e]
def j9(W R:List Int->Int)(zs:List (List Int))(vals:List Int):List Int:=zs.foldl (λ vs z=>vs.set (W z).toNat (vs.getD (R z).toNat 0)) vals
def oH(W R:List Int->Int):∀ (zs:List (List Int)) (vals:List Int),(j9 W R zs vals).length=vals.length
 | [],_=>rfl
 | z::zs,vals=>by
  show (j9 W R zs _).length=_
  rw [oH W R zs,SG]
def Af{W R:List Int->Int}{zs:List (List Int)}{vals:List Int}{i:Nat}{z:List Int}(hz:zs[i]? = some z):j9 W R (zs.take (i+1)) vals=(j9 W R (zs.take i) vals).set (W z).toNat ((j9 W R (zs.take i) vals).getD (R z).toNat 0):=by
 unfold j9;rw [take_add_one,hz,foldl_append];rfl
def InR.set:∀ {ms pl:List Int}{a:Nat}{v:Int},InR ms pl->0<=v->v < ms.getD a 0->InR ms (pl.set a v)
 | [],[],a,v,h,_,h1=>by simpa using h
 | [],_::_,_,_,h,_,_=>h.elim
 | _::_,[],_,_,h,_,_=>h.elim
 | m::ms,x::pl,0,v,h,h0,h1=>⟨⟨h0,h1⟩,h.2⟩
 | m::ms,x::pl,a+1,v,h,h0,h1=>⟨h.1,InR.set h.2 h0 (by simpa using h1)⟩
def mz(ms:List Int):Int:=(ms.map λ s=>s - 1).sum
def eR:List Int->List Int->Int
 | s::ms,p::ps=>(s - 1) * (p.natAbs:Int)+eR ms ps
 | _,_=>0
def JL{s p:Int}(hs:1<=s):max 0 ((s - 1) * p) - min 0 ((s - 1) * p)=(s - 1) * (p.natAbs:Int)/\0<=(s - 1) * (p.natAbs:Int):=by
 rcases Int.le_total 0 p with h|h
 ·have:=Sl (show 0<=s - 1 by omega) h;rw [show (p.natAbs:Int)=p by omega];omega
 ·have:=Sl (show 0<=s - 1 by omega) (show 0<=-p by omega);rw [U8] at this;rw [show (p.natAbs:Int)=-p by omega,U8];omega
def oa:∀ (ms ps:List Int),(∀ m∈ms,(1:Int)<=m)->ps.length=ms.length->aG (ms.zip ps) - aJ (ms.zip ps)=eR ms ps/\aJ (ms.zip ps)<=0/\0<=aG (ms.zip ps)/\0<=eR ms ps
 | [],[],_,_=>by decide
 | [],_::_,_,h=>by simp at h
 | _::_,[],_,h=>by simp at h
 | s::ms,p::ps,h,hl=>by
  obtain⟨i1,i2,i3,i4⟩:=oa ms ps (λ m hm=>h m (QM _ hm)) (by simpa using hl);obtain⟨a1,a2⟩:=JL (p:=p) (h s QP);rw [Tc,cp,cq]
  show _=(s - 1) * (p.natAbs:Int)+eR ms ps/\_/\_/\0<=(s - 1) * (p.natAbs:Int)+eR ms ps
  generalize (s - 1) * (p.natAbs:Int)=y at *;generalize (s - 1) * p=x at *;omega
def yB{ms:List Int}(h:∀ m∈ms,(1:Int)<=m):0<=mz ms:=by
 unfold mz
 induction ms with
 | nil=>decide
 | cons s r ih=>
  have:=ih λ m hm=>h m (QM _ hm);have:=h s QP;rw [RQ,T5];omega
def qj:∀ (ms ps:List Int) (B:Int),(∀ m∈ms,(1:Int)<=m)->ps.length=ms.length->(∀ p∈ps,(p.natAbs:Int)<=B)->0<=B->eR ms ps<=mz ms * B
 | [],[],B,_,_,_,_=>by show (0:Int)<=0 * B;omega
 | [],_::_,_,_,h,_,_=>by simp at h
 | _::_,[],_,_,h,_,_=>by simp at h
 | s::ms,p::ps,B,h,hl,hb,h0=>by
  have ih:=qj ms ps B (λ m hm=>h m (mem_cons_of_mem _ hm)) (by simpa using hl) (λ q hq=>hb q (mem_cons_of_mem _ hq)) h0;have hs:=h s mem_cons_self;have hp:=hb p mem_cons_self;have m1:=Int.mul_le_mul_of_nonneg_left hp (show 0<=s - 1 by omega);have e:mz (s::ms)=(s - 1)+mz ms:=by unfold mz;rw [map_cons,sum_cons]
  show (s - 1) * (p.natAbs:Int)+eR ms ps<=_
  rw [e,So];omega
def ql(s:Int)(ms:List Int):mz (s::ms)=(s - 1)+mz ms:=by unfold mz;rw [map_cons,sum_cons]
def Ab{ms:List Int}(h:∀ m∈ms,1<=m/\m<=3)(hp:ae ms<=60):mz ms<=7:=by
 have key:∀ l:List Int,(∀ m∈l,1<=m/\m<=3)->(3:Int) ^ (mz l).toNat<=ae l * ae l/\0<=mz l/\1<=ae l:=by
  intro l
  induction l with
  | nil=>intro _;decide
  | cons s r ih=>
   intro hl;obtain⟨i1,i2,i3⟩:=ih λ m hm=>hl m (QM _ hm);have hs:=hl s QP;rw [ql]
   show _<=s * ae r * (s * ae r)/\_/\1<=s * ae r
   have e:s * ae r * (s * ae r)=s * s * (ae r * ae r):=by
    rw [R1,R1,Int.mul_left_comm (ae r) s (ae r)]
   rw [e];generalize hP:ae r * ae r=P at *;generalize ae r=p at *;generalize mz r=t at *;obtain⟨n,rfl⟩:=QU i2
   rcases (show s=1\/s=2\/s=3 by omega) with rfl|rfl|rfl
   ·rw [show ((1:Int) - 1+(n:Int)).toNat=n by omega];rw [QO] at i1;omega
   ·rw [show ((2:Int) - 1+(n:Int)).toNat=n+1 by omega,UX];rw [QO] at i1;have:(0:Int)<=3 ^ n:=Int.pow_nonneg (by decide);omega
   ·rw [show ((3:Int) - 1+(n:Int)).toNat=n+1+1 by omega,UX,UX];rw [QO] at i1;omega
 obtain⟨k1,k2,k3⟩:=key ms h;have aS:=Sm hp hp (by omega) (by decide);obtain⟨n,hn⟩:=QU k2;rw [hn,QO] at k1;rw [hn]
 rcases Nat.lt_or_ge n 8 with h8|h8
 ·omega
 ·have:(3:Int) ^ 8<=3 ^ n:=by
   obtain⟨d,rfl⟩:=Nat.exists_eq_add_of_le h8;rw [Int.pow_add]
   have:(1:Int)<=3 ^ d:=by
    have:(0:Int) < 3 ^ d:=Int.pow_pos (by decide);omega
   have:=Rx this (show (0:Int)<=3 ^ 8 by decide);omega
  have:(3:Int) ^ 8=6561:=by decide
  omega
def yC{k:Int}(hk:0<=k):∀ ms:List Int,(∀ m∈ms,1<=m/\m<=k+1)->mz ms<=k * ms.length
 | [],_=>by show (0:Int)<=k * 0;omega
 | s::r,h=>by
  have ih:=yC hk r λ m hm=>h m (QM _ hm);have hs:=h s QP;rw [ql,Rr,show ((r.length+1:Nat):Int)=(r.length:Int)+1 by omega,Int.mul_add,TM];omega
def top(i:Nat):Stmt:=PySem.Challenge.pw_pacehall_k74_orders_told.main.body.getD i (.Pass ⟨0,0,0,0⟩)
abbrev eA:Stmt:=bX (top 9) 0
abbrev fQ:Stmt:=bX (top 10) 0
abbrev jm:Stmt:=top 12
local macro_rules | `(nofun) => `(by decide +kernel)
def xo:ag ["thing"] ["thing"] (aa jm):=⟨rfl,rfl,rfl,nofun,rfl,nofun,nofun⟩
abbrev jn:Stmt:=top 15
def gM:ag ["sizes", "count", "size"] ["sizes"] (aa jn):=⟨rfl,rfl,rfl,nofun,rfl,nofun,nofun⟩
abbrev jl:Stmt:=top 16
def fg:ag ["sizes", "paces", "pace", "size"] ["sizes"] (aa jl):=⟨rfl,rfl,rfl,nofun,rfl,nofun,nofun⟩
abbrev cW:Stmt:=top 17
def jD:ag ["thing", "bound"] ["thing", "bound"] (aa cW):=⟨rfl,rfl,rfl,nofun,rfl,nofun,nofun⟩
abbrev gC:Stmt:=top 18
def xp:ag ["sizes", "thing"] ["sizes", "thing"] (aa gC):=⟨rfl,rfl,rfl,nofun,rfl,nofun,nofun⟩
abbrev eF:Stmt:=top 19
def b9:ag ["sizes", "number", "place", "left", "size"] ["sizes", "number"] (aa eF):=⟨rfl,rfl,rfl,nofun,rfl,nofun,nofun⟩
abbrev jk:Stmt:=top 20
def xn:ag ["sizes", "number"] ["sizes", "number"] (aa jk):=⟨rfl,rfl,rfl,nofun,rfl,nofun,nofun⟩
abbrev fF:Stmt:=top 21
def pL:ag ["count"] ["count"] (aa fF):=⟨rfl,rfl,rfl,nofun,rfl,nofun,nofun⟩
abbrev jV:Stmt:=top 22
def vk:ag ["sizes", "count"] ["sizes"] (aa jV):=⟨rfl,rfl,rfl,nofun,rfl,nofun,nofun⟩
abbrev hV:Stmt:=top 27
def uk:ag ["thing", "low", "high"] ["thing", "low", "high"] (aa hV):=⟨rfl,rfl,rfl,nofun,rfl,nofun,nofun⟩
abbrev kL:Stmt:=top 28
def BW:ag ["thing"] ["thing"] (aa kL):=⟨rfl,rfl,rfl,nofun,rfl,nofun,nofun⟩
abbrev kO:Stmt:=top 29
def BY:ag ["thing"] ["thing"] (aa kO):=⟨rfl,rfl,rfl,nofun,rfl,nofun,nofun⟩
abbrev gD:Stmt:=top 30
def xq:ag ["thing"] ["thing"] (aa gD):=⟨rfl,rfl,rfl,nofun,rfl,nofun,nofun⟩
abbrev hU:Stmt:=top 31
def uj:ag ["axis"] ["axis"] (aa hU):=⟨rfl,rfl,rfl,nofun,rfl,nofun,nofun⟩
abbrev cM:Stmt:=bX (top 32) 0
def lS:ag ["self", "room", "first", "axes"] ["self", "room", "first", "axes"] (aa cM):=⟨rfl,rfl,rfl,nofun,rfl,nofun,nofun⟩
abbrev ef:Stmt:=bX (top 32) 1
def rS:ag ["self"] ["self"] (aa ef):=⟨rfl,rfl,rfl,nofun,rfl,nofun,nofun⟩
abbrev eh:Stmt:=bX (top 32) 2
def rT:ag ["self"] ["self"] (aa eh):=⟨rfl,rfl,rfl,nofun,rfl,nofun,nofun⟩
abbrev gj:Stmt:=bX (top 32) 3
def rW:ag ["self"] ["self"] (aa gj):=⟨rfl,rfl,rfl,nofun,rfl,nofun,nofun⟩
abbrev fz:Stmt:=bX (top 32) 4
def uo:ag ["self", "place"] ["self", "place"] (aa fz):=⟨rfl,rfl,rfl,nofun,rfl,nofun,nofun⟩
abbrev gk:Stmt:=bX (top 32) 6
def dc:ag ["self", "found", "size", "pace"] ["self"] (aa gk):=⟨rfl,rfl,rfl,nofun,rfl,nofun,nofun⟩
abbrev ek:Stmt:=bX (top 32) 7
def rV:ag ["self"] ["self"] (aa ek):=⟨rfl,rfl,rfl,nofun,rfl,nofun,nofun⟩
abbrev cL:Stmt:=bX (top 32) 8
def lR:ag ["self"] ["self"] (aa cL):=⟨rfl,rfl,rfl,nofun,rfl,nofun,nofun⟩
abbrev iL:Stmt:=top 33
def kZ:ag ["cells", "size", "pace", "found", "cell"] ["cells", "size", "pace"] (aa iL):=⟨rfl,rfl,rfl,nofun,rfl,nofun,nofun⟩
abbrev jg:Stmt:=top 35
def zv:ag ["sizes", "room", "cells"] ["sizes", "room"] (aa jg):=⟨rfl,rfl,rfl,nofun,rfl,nofun,nofun⟩
abbrev hZ:Stmt:=top 36
def fD:ag ["view", "seen", "number", "cell"] ["view"] (aa hZ):=⟨rfl,rfl,rfl,nofun,rfl,nofun,nofun⟩
abbrev eI:Stmt:=top 37
def mq:ag ["one", "other"] ["one", "other"] (aa eI):=⟨rfl,rfl,rfl,nofun,rfl,nofun,nofun⟩
abbrev kM:Stmt:=top 39
def BX:ag ["thing", "many"] ["thing", "many"] (aa kM):=⟨rfl,rfl,rfl,nofun,rfl,nofun,nofun⟩
abbrev fe:Stmt:=top 40
def nk:ag ["sizes", "thing", "many"] ["sizes", "thing"] (aa fe):=⟨rfl,rfl,rfl,nofun,rfl,nofun,nofun⟩
abbrev eJ:Stmt:=top 41
def mr:ag ["sizes", "order"] ["sizes", "order"] (aa eJ):=⟨rfl,rfl,rfl,nofun,rfl,nofun,nofun⟩
abbrev bN:Stmt:=top 42
def gv:ag ["to", "source"] ["to", "source"] (aa bN):=⟨rfl,rfl,rfl,nofun,rfl,nofun,nofun⟩
abbrev dk:Stmt:=top 43
def ck:ag ["sizes", "order", "steps", "place", "loop", "step"] ["sizes", "order", "steps"] (aa dk):=⟨rfl,rfl,rfl,nofun,rfl,nofun,nofun⟩
abbrev gc:Stmt:=top 44
def qO:ag ["sizes", "order", "walk"] ["sizes", "order"] (aa gc):=⟨rfl,rfl,rfl,nofun,rfl,nofun,nofun⟩
abbrev oG:Stmt:=top 45
def oV:ag ["store", "to", "source", "order", "values", "place"] ["store", "to", "source", "order"] (aa oG):=⟨rfl,rfl,rfl,nofun,rfl,nofun,nofun⟩
abbrev eG:Stmt:=top 47
def gX:ag ["view", "found"] ["view"] (aa eG):=⟨rfl,rfl,rfl,nofun,rfl,nofun,nofun⟩
abbrev bO:Stmt:=top 48
def aN:ag ["to", "source", "spots", "found", "place", "cell", "origin"] ["to", "source", "spots"] (aa bO):=⟨rfl,rfl,rfl,nofun,rfl,nofun,nofun⟩
abbrev fG:Stmt:=top 49
def bT:ag ["to", "source", "spots", "written", "found", "place", "cell"] ["to", "source"] (aa fG):=⟨rfl,rfl,rfl,nofun,rfl,nofun,nofun⟩
abbrev FW:Stmt:=top 51
def O2:ag ["pair", "axis"] ["pair", "axis"] (aa FW):=⟨rfl,rfl,rfl,nofun,rfl,nofun,nofun⟩
abbrev cY:Stmt:=top 52
def cb:ag ["pairs", "many", "axis", "gaps", "low", "high"] ["pairs", "many"] (aa cY):=⟨rfl,rfl,rfl,nofun,rfl,nofun,nofun⟩
abbrev bM:Stmt:=top 53
def bu:ag ["pairs", "many", "chosen", "axis", "above", "below", "pair"] ["pairs", "many"] (aa bM):=⟨rfl,rfl,rfl,nofun,rfl,nofun,nofun⟩
abbrev cC:Stmt:=top 54
def bx:ag ["to", "source", "left", "many", "order", "loop", "used"] ["to", "source"] (aa cC):=⟨rfl,rfl,rfl,nofun,rfl,nofun,nofun⟩
abbrev eK:Stmt:=top 56
def mw:ag ["view", "many"] ["view", "many"] (aa eK):=⟨rfl,rfl,rfl,nofun,rfl,nofun,nofun⟩
abbrev dm:Stmt:=bX (top 57) 0
def jS:ag ["self", "values"] ["self", "values"] (aa dm):=⟨rfl,rfl,rfl,nofun,rfl,nofun,nofun⟩
abbrev cN:Stmt:=bX (top 57) 1
def i8:ag ["self"] ["self"] (aa cN):=⟨rfl,rfl,rfl,nofun,rfl,nofun,nofun⟩
abbrev cv:Stmt:=bX (top 57) 2
def iA:ag ["self", "view"] ["self", "view"] (aa cv):=⟨rfl,rfl,rfl,nofun,rfl,nofun,nofun⟩
abbrev eo:Stmt:=bX (top 57) 3
def rX:ag ["self", "view"] ["self", "view"] (aa eo):=⟨rfl,rfl,rfl,nofun,rfl,nofun,nofun⟩
abbrev ic:Stmt:=bX (top 57) 4
def iy:ag ["self", "view", "values", "cell", "value"] ["self", "view", "values"] (aa ic):=⟨rfl,rfl,rfl,nofun,rfl,nofun,nofun⟩
abbrev eL:Stmt:=bX (top 57) 6
def mx:ag ["self", "to", "source"] ["self", "to", "source"] (aa eL):=⟨rfl,rfl,rfl,nofun,rfl,nofun,nofun⟩
abbrev ib:Stmt:=top 59
def fE:ag ["_law_script", "_law_k", "_law_many", "_law_number_here", "_law_cell"] ["_law_script", "_law_k", "_law_many"] (aa ib):=⟨rfl,rfl,rfl,nofun,rfl,nofun,nofun⟩
abbrev gf:Stmt:=top 60
def rQ:ag ["_law_found"] ["_law_found"] (aa gf):=⟨rfl,rfl,rfl,nofun,rfl,nofun,nofun⟩
abbrev fJ:Stmt:=top 61
def dD:ag ["_law_number_here", "_law_by", "_law_many", "_law_found", "_law_k"] ["_law_number_here", "_law_by", "_law_many"] (aa fJ):=⟨rfl,rfl,rfl,nofun,rfl,nofun,nofun⟩
abbrev gg:Stmt:=top 62
def aM:ag ["_law_script", "_law_most_here", "_law_wide", "_law_many", "_law_menu", "_law_sizes_here", "_law_count", "_law_digit", "_law_size"] ["_law_script", "_law_most_here", "_law_wide"] (aa gg):=⟨rfl,rfl,rfl,nofun,rfl,nofun,nofun⟩
abbrev ia:Stmt:=top 63
def bB:ag ["_law_script", "_law_sizes_here", "_law_unit", "_law_turn", "_law_signs", "_law_paces", "_law_left", "_law_axis"] ["_law_script", "_law_sizes_here"] (aa ia):=⟨rfl,rfl,rfl,nofun,rfl,nofun,nofun⟩
abbrev dw:Stmt:=top 64
def dB:ag ["_law_script", "_law_paces", "_law_way", "_law_k", "_law_axis"] ["_law_script", "_law_paces"] (aa dw):=⟨rfl,rfl,rfl,nofun,rfl,nofun,nofun⟩
abbrev ed:Stmt:=top 65
def rR:ag ["_law_sizes_here", "_law_paces"] ["_law_sizes_here", "_law_paces"] (aa ed):=⟨rfl,rfl,rfl,nofun,rfl,nofun,nofun⟩
abbrev fw:Stmt:=top 66
def um:ag ["_law_sizes_here", "_law_paces"] ["_law_sizes_here", "_law_paces"] (aa fw):=⟨rfl,rfl,rfl,nofun,rfl,nofun,nofun⟩
abbrev ee:Stmt:=top 67
def bL:ag ["_law_first", "_law_sizes_here", "_law_paces", "_law_found", "_law_size", "_law_pace", "_law_longer", "_law_cell"] ["_law_first", "_law_sizes_here", "_law_paces"] (aa ee):=⟨rfl,rfl,rfl,nofun,rfl,nofun,nofun⟩
abbrev jo:Stmt:=top 68
def bC:ag ["_law_script", "_law_sizes_here", "_law_paces", "_law_others_here", "_law_first", "_law_begin", "_law_last", "_law_room", "_law_one", "_law_other"] ["_law_script", "_law_sizes_here"] (aa jo):=⟨rfl,rfl,rfl,nofun,rfl,nofun,nofun⟩
abbrev gE:Stmt:=top 69
def jA:ag ["_law_script", "_law_view", "_law_by", "_law_more"] ["_law_script", "_law_view"] (aa gE):=⟨rfl,rfl,rfl,nofun,rfl,nofun,nofun⟩
abbrev dv:Stmt:=top 70
def bU:ag ["_law_sizes_here", "_law_found", "_law_size", "_law_longer", "_law_place"] ["_law_sizes_here"] (aa dv):=⟨rfl,rfl,rfl,nofun,rfl,nofun,nofun⟩
abbrev gh:Stmt:=top 71
def cD:ag ["_law_writes", "_law_reads", "_law_holder", "_law_n", "_law_found", "_law_j", "_law_i"] ["_law_writes", "_law_reads"] (aa gh):=⟨rfl,rfl,rfl,nofun,rfl,nofun,nofun⟩
abbrev ft:Stmt:=top 72
def bK:ag ["_law_sizes_here", "_law_order", "_law_found", "_law_axis", "_law_way", "_law_numbers", "_law_longer", "_law_place"] ["_law_sizes_here", "_law_order"] (aa ft):=⟨rfl,rfl,rfl,nofun,rfl,nofun,nofun⟩
abbrev fH:Stmt:=top 73
def cJ:ag ["_law_sizes_here", "_law_place", "_law_number_here", "_law_size", "_law_k"] ["_law_sizes_here", "_law_place"] (aa fH):=⟨rfl,rfl,rfl,nofun,rfl,nofun,nofun⟩
abbrev gi:Stmt:=top 74
def cE:ag ["_law_sizes_here", "_law_order", "_law_writes", "_law_reads", "_law_held", "_law_due", "_law_n", "_law_place"] ["_law_sizes_here", "_law_order", "_law_writes", "_law_reads"] (aa gi):=⟨rfl,rfl,rfl,nofun,rfl,nofun,nofun⟩
abbrev cK:Stmt:=top 75
def gu:ag ["_law_order", "_law_axes", "_law_row"] ["_law_order", "_law_axes"] (aa cK):=⟨rfl,rfl,rfl,nofun,rfl,nofun,nofun⟩
abbrev dA:Stmt:=top 76
def dC:ag ["_law_told", "_law_due", "_law_axes", "_law_pair", "_law_axis", "_law_along"] ["_law_told", "_law_due", "_law_axes"] (aa dA):=⟨rfl,rfl,rfl,nofun,rfl,nofun,nofun⟩
abbrev bV:Stmt:=top 77
def bW:ag ["_law_one", "_law_other", "_law_order", "_law_held", "_law_store", "_law_beside"] ["_law_one", "_law_other", "_law_order"] (aa bV):=⟨rfl,rfl,rfl,nofun,rfl,nofun,nofun⟩
abbrev dZ:Stmt:=top 78
def gn:ag ["_law_told", "_law_sizes_here", "_law_writes", "_law_reads", "_law_some", "_law_due"] ["_law_told", "_law_sizes_here", "_law_writes", "_law_reads"] (aa dZ):=⟨rfl,rfl,rfl,nofun,rfl,nofun,nofun⟩
abbrev nJ:Stmt:=top 79
def l4:ag ["_law_script", "_law_sizes_here", "_law_one", "_law_other", "_law_writes", "_law_reads", "_law_told", "_law_far_here", "_law_same", "_law_again"] ["_law_script"] (aa nJ):=⟨rfl,rfl,rfl,nofun,rfl,nofun,nofun⟩
set_option genInjectivity false in
structure Adr where
 a_Ef:Addr
 a_Je:Addr
 a_Vb:Addr
 a_Vh:Addr
 a_Vc:Addr
 a_Vi:Addr
 a_Vd:Addr
 a_Ve:Addr
 a_Vk:Addr
 a_Vm:Addr
 a_Vl:Addr
 a_tZ:Addr
 d_tZ:FuncData
 a_ua:Addr
 d_ua:FuncData
 a_Eg:Addr
 d_Eg:FuncData
 a_Eh:Addr
 d_Eh:FuncData
 a_Ei:Addr
 d_Ei:FuncData
 a_t6:Addr
 d_t6:FuncData
 a_Ej:Addr
 d_Ej:FuncData
 a_wR:Addr
 d_wR:FuncData
 a_IU:Addr
 d_IU:FuncData
 a_Bd:Addr
 d_Bd:FuncData
 a_Vf:Addr
 d_Vf:FuncData
 a_D0:Addr
 d_D0:FuncData
 a_I0:Addr
 d_I0:FuncData
 a_Ja:Addr
 d_Ja:FuncData
 a_IV:Addr
 d_IV:FuncData
 a_D4:Addr
 d_D4:FuncData
 a_wM:Addr
 d_wM:FuncData
 a_Bk:Addr
 d_Bk:FuncData
 a_Bl:Addr
 d_Bl:FuncData
 a_Bm:Addr
 d_Bm:FuncData
 a_D8:Addr
 d_D8:FuncData
 a_Bo:Addr
 d_Bo:FuncData
 a_Bp:Addr
 d_Bp:FuncData
 a_wN:Addr
 d_wN:FuncData
 a_Jb:Addr
 d_Jb:FuncData
 a_Vj:Addr
 d_Vj:FuncData
 a_D9:Addr
 d_D9:FuncData
 a_wU:Addr
 d_wU:FuncData
 a_Jc:Addr
 d_Jc:FuncData
 a_IW:Addr
 d_IW:FuncData
 a_wV:Addr
 d_wV:FuncData
 a_qD:Addr
 d_qD:FuncData
 a_wK:Addr
 d_wK:FuncData
 a_Jd:Addr
 d_Jd:FuncData
 a_Vg:Addr
 d_Vg:FuncData
 a_wW:Addr
 d_wW:FuncData
 a_rL:Addr
 d_rL:FuncData
 a_Be:Addr
 d_Be:FuncData
 a_Vn:Addr
 d_Vn:FuncData
 a_wX:Addr
 d_wX:FuncData
 a_wO:Addr
 d_wO:FuncData
 a_Bq:Addr
 d_Bq:FuncData
 a_wY:Addr
 d_wY:FuncData
 a_wL:Addr
 d_wL:FuncData
 a_t5:Addr
 d_t5:FuncData
 a_tY:Addr
 d_tY:FuncData
 a_Br:Addr
 d_Br:FuncData
 a_Ea:Addr
 d_Ea:FuncData
 a_wZ:Addr
 d_wZ:FuncData
 a_Eb:Addr
 d_Eb:FuncData
 a_Bs:Addr
 d_Bs:FuncData
 a_Bf:Addr
 d_Bf:FuncData
 a_Bt:Addr
 d_Bt:FuncData
 a_Ec:Addr
 d_Ec:FuncData
 a_Bg:Addr
 d_Bg:FuncData
 a_DV:Addr
 d_DV:FuncData
 a_Ed:Addr
 d_Ed:FuncData
 a_DW:Addr
 d_DW:FuncData
 a_IX:Addr
 d_IX:FuncData
 a_IZ:Addr
 d_IZ:FuncData
 a_Bh:Addr
 d_Bh:FuncData
 a_DX:Addr
 d_DX:FuncData
 a_Ee:Addr
 d_Ee:FuncData
 a_Bi:Addr
 d_Bi:FuncData
 a_DY:Addr
 d_DY:FuncData
 a_wQ:Addr
 d_wQ:FuncData
 a_Bj:Addr
 d_Bj:FuncData
 a_t7:Addr
 d_t7:FuncData
 a_DZ:Addr
 d_DZ:FuncData
 a_law:Addr
 d_law:FuncData
structure Tx(K:W.Frag)(mg:Str->Option Value)(t:Adr):Prop where
 m_Ef:mg "PaceError"=some (.ref t.a_Ef)
 m_Je:mg "NoPlace"=some (.ref t.a_Je)
 m_Vb:mg "NoCells"=some (.ref t.a_Vb)
 m_Vh:mg "NoView"=some (.ref t.a_Vh)
 m_Vc:mg "NoCount"=some (.ref t.a_Vc)
 m_Vi:mg "NoPair"=some (.ref t.a_Vi)
 m_Vd:mg "NoOrder"=some (.ref t.a_Vd)
 m_Ve:mg "TooMany"=some (.ref t.a_Ve)
 m_Vk:mg "Twice"=some (.ref t.a_Vk)
 m_Vm:mg "View"=some (.ref t.a_Vm)
 m_Vl:mg "Store"=some (.ref t.a_Vl)
 m_MOST_TOLD:∃ tk,mg "MOST_TOLD"=some (.int 4096 tk)
 m_MOST_ROOM:∃ tk,mg "MOST_ROOM"=some (.int 1000000000000000000 tk)
 m_MOST_SIZE:∃ tk,mg "MOST_SIZE"=some (.int 1000000000 tk)
 m_MOST_AXES:∃ tk,mg "MOST_AXES"=some (.int 8 tk)
 oi_TooMany:P7 K t.a_Ve t.a_tZ
 tk_TooMany_number:W.takerIn K t.a_Ve "number"=some none
 na_TooMany_number:dt K t.a_Ve "number"
 bi_PaceError:O7 K t.a_Ef
 oi_Twice:P7 K t.a_Vk t.a_ua
 tk_Twice_one:W.takerIn K t.a_Vk "one"=some none
 na_Twice_one:dt K t.a_Vk "one"
 tk_Twice_other:W.takerIn K t.a_Vk "other"=some none
 na_Twice_other:dt K t.a_Vk "other"
 cl_View:Cls K t.a_Vm
 na_View_axes:dt K t.a_Vm "axes"
 na_View_first:dt K t.a_Vm "first"
 na_View_room:dt K t.a_Vm "room"
 mk_View:Mk K t.a_Vm t.a_wM
 mt_View_sizes:rZ K t.a_Vm "sizes" t.a_Bk
 mt_View_paces:rZ K t.a_Vm "paces" t.a_Bl
 mt_View_count:rZ K t.a_Vm "count" t.a_Bm
 mt_View_cell:rZ K t.a_Vm "cell" t.a_D8
 mt_View_cells:rZ K t.a_Vm "cells" t.a_Bo
 mt_View_least:rZ K t.a_Vm "least" t.a_Bp
 mt_View_greatest:rZ K t.a_Vm "greatest" t.a_wN
 cl_Store:Cls K t.a_Vl
 na_Store_floor:dt K t.a_Vl "floor"
 mk_Store:Mk K t.a_Vl t.a_wL
 mt_Store_all_values:rZ K t.a_Vl "all_values" t.a_t5
 mt_Store_refuse_room:rZ K t.a_Vl "refuse_room" t.a_tY
 mt_Store_read:rZ K t.a_Vl "read" t.a_Br
 mt_Store_put:rZ K t.a_Vl "put" t.a_Ea
 mt_Store_copied:rZ K t.a_Vl "copied" t.a_wZ
 F_tZ:Fun K "__init__" "TooMany.__init__" eA t.a_tZ t.d_tZ
 b_tZ:av K t.d_tZ ["self", "number"] []
 F_ua:Fun K "__init__" "Twice.__init__" fQ t.a_ua t.d_ua
 b_ua:av K t.d_ua ["self", "one", "other"] []
 F_Eg:Fun K "is_whole" "is_whole" jm t.a_Eg t.d_Eg
 m_Eg:mg "is_whole"=some (.ref t.a_Eg)
 b_Eg:av K t.d_Eg ["thing"] []
 F_Eh:Fun K "count_of" "count_of" jn t.a_Eh t.d_Eh
 m_Eh:mg "count_of"=some (.ref t.a_Eh)
 b_Eh:av K t.d_Eh ["sizes"] []
 F_Ei:Fun K "paces_of" "paces_of" jl t.a_Ei t.d_Ei
 m_Ei:mg "paces_of"=some (.ref t.a_Ei)
 b_Ei:av K t.d_Ei ["sizes"] []
 F_t6:Fun K "is_number_below" "is_number_below" cW t.a_t6 t.d_t6
 m_t6:mg "is_number_below"=some (.ref t.a_t6)
 b_t6:av K t.d_t6 ["thing", "bound"] []
 F_Ej:Fun K "is_place" "is_place" gC t.a_Ej t.d_Ej
 m_Ej:mg "is_place"=some (.ref t.a_Ej)
 b_Ej:av K t.d_Ej ["sizes", "thing"] []
 F_wR:Fun K "split_number" "split_number" eF t.a_wR t.d_wR
 m_wR:mg "split_number"=some (.ref t.a_wR)
 b_wR:av K t.d_wR ["sizes", "number"] []
 F_IU:Fun K "place_at" "place_at" jk t.a_IU t.d_IU
 m_IU:mg "place_at"=some (.ref t.a_IU)
 b_IU:av K t.d_IU ["sizes", "number"] []
 F_Bd:Fun K "refuse_long" "refuse_long" fF t.a_Bd t.d_Bd
 m_Bd:mg "refuse_long"=some (.ref t.a_Bd)
 b_Bd:av K t.d_Bd ["count"] []
 F_Vf:Fun K "places" "places" jV t.a_Vf t.d_Vf
 m_Vf:mg "places"=some (.ref t.a_Vf)
 b_Vf:av K t.d_Vf ["sizes"] []
 F_D0:Fun K "is_within" "is_within" hV t.a_D0 t.d_D0
 m_D0:mg "is_within"=some (.ref t.a_D0)
 b_D0:av K t.d_D0 ["thing", "low", "high"] []
 F_I0:Fun K "is_size" "is_size" kL t.a_I0 t.d_I0
 m_I0:mg "is_size"=some (.ref t.a_I0)
 b_I0:av K t.d_I0 ["thing"] []
 F_Ja:Fun K "is_axis" "is_axis" kO t.a_Ja t.d_Ja
 m_Ja:mg "is_axis"=some (.ref t.a_Ja)
 b_Ja:av K t.d_Ja ["thing"] []
 F_IV:Fun K "are_axes" "are_axes" gD t.a_IV t.d_IV
 m_IV:mg "are_axes"=some (.ref t.a_IV)
 b_IV:av K t.d_IV ["thing"] []
 F_D4:Fun K "kept_axis" "kept_axis" hU t.a_D4 t.d_D4
 m_D4:mg "kept_axis"=some (.ref t.a_D4)
 b_D4:av K t.d_D4 ["axis"] []
 F_wM:Fun K "__init__" "View.__init__" cM t.a_wM t.d_wM
 b_wM:av K t.d_wM ["self", "room", "first", "axes"] []
 F_Bk:Fun K "sizes" "View.sizes" ef t.a_Bk t.d_Bk
 b_Bk:av K t.d_Bk ["self"] []
 F_Bl:Fun K "paces" "View.paces" eh t.a_Bl t.d_Bl
 b_Bl:av K t.d_Bl ["self"] []
 F_Bm:Fun K "count" "View.count" gj t.a_Bm t.d_Bm
 b_Bm:av K t.d_Bm ["self"] []
 F_D8:Fun K "cell" "View.cell" fz t.a_D8 t.d_D8
 b_D8:av K t.d_D8 ["self", "place"] []
 F_Bo:Fun K "cells" "View.cells" gk t.a_Bo t.d_Bo
 b_Bo:av K t.d_Bo ["self"] []
 F_Bp:Fun K "least" "View.least" ek t.a_Bp t.d_Bp
 b_Bp:av K t.d_Bp ["self"] []
 F_wN:Fun K "greatest" "View.greatest" cL t.a_wN t.d_wN
 b_wN:av K t.d_wN ["self"] []
 F_Jb:Fun K "widened" "widened" iL t.a_Jb t.d_Jb
 m_Jb:mg "widened"=some (.ref t.a_Jb)
 b_Jb:av K t.d_Jb ["cells", "size", "pace"] []
 F_Vj:Nk K "whole" "whole" jg t.a_Vj t.d_Vj
 m_Vj:mg "whole"=some (.ref t.a_Vj)
 b_Vj:av K t.d_Vj ["sizes", "room"] []
 b_whole_1:av K t.d_Vj ["sizes", "room"] [Value.none]
 F_D9:Fun K "has_twice" "has_twice" hZ t.a_D9 t.d_D9
 m_D9:mg "has_twice"=some (.ref t.a_D9)
 b_D9:av K t.d_D9 ["view"] []
 F_wU:Fun K "refuse_rooms" "refuse_rooms" eI t.a_wU t.d_wU
 m_wU:mg "refuse_rooms"=some (.ref t.a_wU)
 b_wU:av K t.d_wU ["one", "other"] []
 F_Jc:Fun K "is_loop" "is_loop" kM t.a_Jc t.d_Jc
 m_Jc:mg "is_loop"=some (.ref t.a_Jc)
 b_Jc:av K t.d_Jc ["thing", "many"] []
 F_IW:Fun K "is_order" "is_order" fe t.a_IW t.d_IW
 m_IW:mg "is_order"=some (.ref t.a_IW)
 b_IW:av K t.d_IW ["sizes", "thing"] []
 F_wV:Fun K "refuse_order" "refuse_order" eJ t.a_wV t.d_wV
 m_wV:mg "refuse_order"=some (.ref t.a_wV)
 b_wV:av K t.d_wV ["sizes", "order"] []
 F_qD:Fun K "refuse_sizes_unlike" "refuse_sizes_unlike" bN t.a_qD t.d_qD
 m_qD:mg "refuse_sizes_unlike"=some (.ref t.a_qD)
 b_qD:av K t.d_qD ["to", "source"] []
 F_wK:Fun K "place_by_steps" "place_by_steps" dk t.a_wK t.d_wK
 m_wK:mg "place_by_steps"=some (.ref t.a_wK)
 b_wK:av K t.d_wK ["sizes", "order", "steps"] []
 F_Jd:Fun K "walk_of" "walk_of" gc t.a_Jd t.d_Jd
 m_Jd:mg "walk_of"=some (.ref t.a_Jd)
 b_Jd:av K t.d_Jd ["sizes", "order"] []
 F_Vg:Fun K "looped" "looped" oG t.a_Vg t.d_Vg
 m_Vg:mg "looped"=some (.ref t.a_Vg)
 b_Vg:av K t.d_Vg ["store", "to", "source", "order"] []
 F_wW:Fun K "refuse_twice" "refuse_twice" eG t.a_wW t.d_wW
 m_wW:mg "refuse_twice"=some (.ref t.a_wW)
 b_wW:av K t.d_wW ["view"] []
 F_rL:Fun K "places_written_anew" "places_written_anew" bO t.a_rL t.d_rL
 m_rL:mg "places_written_anew"=some (.ref t.a_rL)
 b_rL:av K t.d_rL ["to", "source", "spots"] []
 F_Be:Fun K "bound_pairs" "bound_pairs" fG t.a_Be t.d_Be
 m_Be:mg "bound_pairs"=some (.ref t.a_Be)
 b_Be:av K t.d_Be ["to", "source"] []
 F_Vn:Fun K "gap" "gap" FW t.a_Vn t.d_Vn
 m_Vn:mg "gap"=some (.ref t.a_Vn)
 b_Vn:av K t.d_Vn ["pair", "axis"] []
 F_wX:Fun K "helpful_loop" "helpful_loop" cY t.a_wX t.d_wX
 m_wX:mg "helpful_loop"=some (.ref t.a_wX)
 b_wX:av K t.d_wX ["pairs", "many"] []
 F_wO:Fun K "barring_pairs" "barring_pairs" bM t.a_wO t.d_wO
 m_wO:mg "barring_pairs"=some (.ref t.a_wO)
 b_wO:av K t.d_wO ["pairs", "many"] []
 F_Bq:Fun K "loop_order" "loop_order" cC t.a_Bq t.d_Bq
 m_Bq:mg "loop_order"=some (.ref t.a_Bq)
 b_Bq:av K t.d_Bq ["to", "source"] []
 F_wY:Fun K "refuse_count" "refuse_count" eK t.a_wY t.d_wY
 m_wY:mg "refuse_count"=some (.ref t.a_wY)
 b_wY:av K t.d_wY ["view", "many"] []
 F_wL:Fun K "__init__" "Store.__init__" dm t.a_wL t.d_wL
 b_wL:av K t.d_wL ["self", "values"] []
 F_t5:Fun K "all_values" "Store.all_values" cN t.a_t5 t.d_t5
 b_t5:av K t.d_t5 ["self"] []
 F_tY:Fun K "refuse_room" "Store.refuse_room" cv t.a_tY t.d_tY
 b_tY:av K t.d_tY ["self", "view"] []
 F_Br:Fun K "read" "Store.read" eo t.a_Br t.d_Br
 b_Br:av K t.d_Br ["self", "view"] []
 F_Ea:Fun K "put" "Store.put" ic t.a_Ea t.d_Ea
 b_Ea:av K t.d_Ea ["self", "view", "values"] []
 F_wZ:Fun K "copied" "Store.copied" eL t.a_wZ t.d_wZ
 b_wZ:av K t.d_wZ ["self", "to", "source"] []
 F_Eb:Fun K "_law_draw" "_law_draw" ib t.a_Eb t.d_Eb
 m_Eb:mg "_law_draw"=some (.ref t.a_Eb)
 b_Eb:av K t.d_Eb ["_law_script", "_law_k", "_law_many"] []
 F_Bs:Fun K "_law_whole" "_law_whole" gf t.a_Bs t.d_Bs
 m_Bs:mg "_law_whole"=some (.ref t.a_Bs)
 b_Bs:av K t.d_Bs ["_law_found"] []
 F_Bf:Fun K "_law_digits" "_law_digits" fJ t.a_Bf t.d_Bf
 m_Bf:mg "_law_digits"=some (.ref t.a_Bf)
 b_Bf:av K t.d_Bf ["_law_number_here", "_law_by", "_law_many"] []
 F_Bt:Fun K "_law_sizes" "_law_sizes" gg t.a_Bt t.d_Bt
 m_Bt:mg "_law_sizes"=some (.ref t.a_Bt)
 b_Bt:av K t.d_Bt ["_law_script", "_law_most_here", "_law_wide"] []
 F_Ec:Fun K "_law_once" "_law_once" ia t.a_Ec t.d_Ec
 m_Ec:mg "_law_once"=some (.ref t.a_Ec)
 b_Ec:av K t.d_Ec ["_law_script", "_law_sizes_here"] []
 F_Bg:Fun K "_law_others" "_law_others" dw t.a_Bg t.d_Bg
 m_Bg:mg "_law_others"=some (.ref t.a_Bg)
 b_Bg:av K t.d_Bg ["_law_script", "_law_paces"] []
 F_DV:Fun K "_law_least" "_law_least" ed t.a_DV t.d_DV
 m_DV:mg "_law_least"=some (.ref t.a_DV)
 b_DV:av K t.d_DV ["_law_sizes_here", "_law_paces"] []
 F_Ed:Fun K "_law_most" "_law_most" fw t.a_Ed t.d_Ed
 m_Ed:mg "_law_most"=some (.ref t.a_Ed)
 b_Ed:av K t.d_Ed ["_law_sizes_here", "_law_paces"] []
 F_DW:Fun K "_law_cells" "_law_cells" ee t.a_DW t.d_DW
 m_DW:mg "_law_cells"=some (.ref t.a_DW)
 b_DW:av K t.d_DW ["_law_first", "_law_sizes_here", "_law_paces"] []
 F_IX:Fun K "_law_two" "_law_two" jo t.a_IX t.d_IX
 m_IX:mg "_law_two"=some (.ref t.a_IX)
 b_IX:av K t.d_IX ["_law_script", "_law_sizes_here"] []
 F_IZ:Fun K "_law_far" "_law_far" gE t.a_IZ t.d_IZ
 m_IZ:mg "_law_far"=some (.ref t.a_IZ)
 b_IZ:av K t.d_IZ ["_law_script", "_law_view"] []
 F_Bh:Fun K "_law_places" "_law_places" dv t.a_Bh t.d_Bh
 m_Bh:mg "_law_places"=some (.ref t.a_Bh)
 b_Bh:av K t.d_Bh ["_law_sizes_here"] []
 F_DX:Fun K "_law_pairs" "_law_pairs" gh t.a_DX t.d_DX
 m_DX:mg "_law_pairs"=some (.ref t.a_DX)
 b_DX:av K t.d_DX ["_law_writes", "_law_reads"] []
 F_Ee:Fun K "_law_walk" "_law_walk" ft t.a_Ee t.d_Ee
 m_Ee:mg "_law_walk"=some (.ref t.a_Ee)
 b_Ee:av K t.d_Ee ["_law_sizes_here", "_law_order"] []
 F_Bi:Fun K "_law_number" "_law_number" fH t.a_Bi t.d_Bi
 m_Bi:mg "_law_number"=some (.ref t.a_Bi)
 b_Bi:av K t.d_Bi ["_law_sizes_here", "_law_place"] []
 F_DY:Fun K "_law_keeps" "_law_keeps" gi t.a_DY t.d_DY
 m_DY:mg "_law_keeps"=some (.ref t.a_DY)
 b_DY:av K t.d_DY ["_law_sizes_here", "_law_order", "_law_writes", "_law_reads"] []
 F_wQ:Fun K "_law_is_order" "_law_is_order" cK t.a_wQ t.d_wQ
 m_wQ:mg "_law_is_order"=some (.ref t.a_wQ)
 b_wQ:av K t.d_wQ ["_law_order", "_law_axes"] []
 F_Bj:Fun K "_law_is_bar" "_law_is_bar" dA t.a_Bj t.d_Bj
 m_Bj:mg "_law_is_bar"=some (.ref t.a_Bj)
 b_Bj:av K t.d_Bj ["_law_told", "_law_due", "_law_axes"] []
 F_t7:Fun K "_law_left_alike" "_law_left_alike" bV t.a_t7 t.d_t7
 m_t7:mg "_law_left_alike"=some (.ref t.a_t7)
 b_t7:av K t.d_t7 ["_law_one", "_law_other", "_law_order"] []
 F_DZ:Fun K "_law_right" "_law_right" dZ t.a_DZ t.d_DZ
 m_DZ:mg "_law_right"=some (.ref t.a_DZ)
 b_DZ:av K t.d_DZ ["_law_told", "_law_sizes_here", "_law_writes", "_law_reads"] []
 F_law:Fun K "law" "law" nJ t.a_law t.d_law
 m_law:mg "law"=some (.ref t.a_law)
 b_law:av K t.d_law ["_law_script"] []
 z_ValueError:mg "ValueError"=none
 z_all:mg "all"=none
 z_bool:mg "bool"=none
 z_enumerate:mg "enumerate"=none
 z_int:mg "int"=none
 z_isinstance:mg "isinstance"=none
 z_len:mg "len"=none
 z_list:mg "list"=none
 z_max:mg "max"=none
 z_min:mg "min"=none
 z_range:mg "range"=none
 z_reversed:mg "reversed"=none
 z_set:mg "set"=none
 z_sorted:mg "sorted"=none
 z_sum:mg "sum"=none
 z_tuple:mg "tuple"=none
 z_zip:mg "zip"=none
local macro_rules | `(tactic| trivial) => `(tactic| first | exact Or.inl rfl | exact Or.inr rfl | exact Or.inr (Or.inl rfl) | exact Or.inr (Or.inr rfl) | assumption)
local macro_rules | `(tactic| simp! only [$xs,*]) => do
  let ys := xs.getElems.map λ x => (⟨x.raw⟩ : Lean.TSyntax `Lean.Parser.Tactic.simpLemma)
  let zs ← ("↓reduceIte ↓iM ↓Jx ↓Jw ↓Jv ↓Ju ↓Jt ↓Js ↓Jr ↓Jq ↓Jp ↓Jo ↓Ft ↓OP ↓Ou ↓Qm ↓OK ↓Oo ↓wB ↓tS ↓tT ↓tR ↓L3 ↓LA ↓Mv ↓LH ↓OO ↓Ot ↓Mb ↓Ox ↓Mm ↓LB ↓DQ ↓IG ↓HJ ↓A8 ↓A7 ↓A6 ↓A5 ↓HL ↓OU ↓Oy ↓HG ↓Ly ↓Lz ↓IF ↓HH ↓Ma ↓pZ ↓Mt ↓LG ↓OS ↓L6 ↓LO ↓L8 ↓OR ↓OA ↓LM ↓LL ↓wC ↓tX ↓rK ↓tW ↓A0 ↓AZ ↓AY ↓AX ↓AW ↓AS ↓AR ↓AQ ↓AL ↓AK ↓AO ↓AN ↓AM ↓AJ ↓AI ↓AV ↓AU ↓Mq ↓OV ↓Oz ↓Mp ↓LF ↓Mu ↓AF ↓L0 ↓wA ↓Ir ↓LX ↓HQ ↓DM ↓DN ↓MB ↓OT ↓OB ↓aA ↓LC ↓OL ↓IP ↓A4 ↓Mc ↓Mx ↓OJ ↓Gk ↓Lm ↓HK ↓Io ↓HE ↓MC ↓wJ ↓gJ ↓gI ↓pH ↓gU ↓DO ↓DP ↓Mf ↓wD ↓pG ↓pE ↓tU ↓pF ↓pD ↓yS ↓A3 ↓LU ↓LV ↓LW ↓Oq ↓AD ↓Iv ↓HF ↓OM ↓ON ↓LJ ↓LN ↓Qq ↓Ib ↓Iy ↓DE ↓L4 ↓L5 ↓Fs ↓OQ ↓OC ↓Ic ↓LY ↓LZ ↓Mz ↓Il ↓LK ↓Mo ↓IL ↓LP ↓Ii ↓Ih ↓Ik ↓Ij ↓OF ↓Mw ↓aO ↓aV ↓dg ↓HP ↓HN ↓IB ↓IC ↓Me ↓LS ↓Im ↓Ip ↓Iq ↓HX ↓wH ↓wG ↓wF ↓DJ ↓Iz ↓HZ ↓IA ↓AH ↓AG ↓Ia ↓Mn ↓Ie ↓DK ↓DL ↓L7 ↓Ov ↓HR ↓HU ↓ID ↓IE ↓AE ↓Mg ↓Mh ↓IQ ↓Ow ↓Ml ↓HI ↓Mi ↓Mj ↓HM ↓Lx ↓Lw ↓Lv ↓Lu ↓Ls ↓Lr ↓Lq ↓Lp ↓Lo ↓Ln ↓OE ↓Qo ↓Qn ↓DH ↓HW ↓IK ↓Ig ↓Iw ↓HY ↓IH ↓II ↓IJ ↓DG ↓IS ↓DR ↓L1 ↓LR ↓Iu ↓DF ↓L9 ↓OD ↓LQ ↓OG ↓OH ↓Qp ↓OI ↓IM ↓DD ↓Md ↓DC ↓Mr ↓Ms ↓LD ↓HS ↓HV iM dh az ke CP CO DS CL xr ar GQ GS GR KO GW KQ GX GU GV CI Er Jj Ep Eo Qw rH O4 O3 EE ju u9 iq gp JO MY MX JN Option.isSome_some Option.isSome_none Option.map_some List.length_cons List.length_nil List.length_map List.map_cons List.map_nil and_true true_and and_self implies_true reduceCtorEq decide_true decide_false Bool.not_true Bool.not_false if_true if_false decide_eq_true_eq Bool.false_eq_true Bool.not_eq_true' decide_eq_false_iff_not Bool.and_true Bool.true_and Bool.and_self Bool.and_eq_true Int.reduceToNat Int.reducePow Int.reduceMul Int.reduceAdd Int.reduceSub Int.reduceNeg Int.reduceLT Int.reduceLE Int.reduceEq Int.reduceNe Int.reduceDiv Int.reduceMod Nat.reduceAdd Nat.reduceLeDiff Nat.reduceLT Nat.reduceMul Nat.reducePow gt_iff_lt ge_iff_le ne_eq false_implies true_implies eq_self String.reduceEq Int.cast_ofNat_Int not_true_eq_false not_false_eq_true false_and and_false List.cons_append List.nil_append List.append_nil Ks".splitOn " ").toArray.mapM λ s => if s.startsWith "↓" then `(Lean.Parser.Tactic.simpLemma| ↓ $(Lean.mkIdent (s.replace "↓" "").toName):ident) else `(Lean.Parser.Tactic.simpLemma| $(Lean.mkIdent s.toName):ident)
  `(tactic| simp (config := { failIfUnchanged := false, maxDischargeDepth := 30, maxSteps := 10000000 }) only [$zs,*, $ys,*, *])
local macro_rules | `(%[$xs,*|$k:num]) => do
  let a := xs.getElems
  let s (i : Nat) : String := a[i]!.raw.getId.toString
  let I (n : String) : Lean.TSyntax `term := ⟨(Lean.mkIdent n.toName).raw⟩
  match k.getNat with
  | 46 => `($(a[0]!) (P := $(I "P")) (w := $(I "w")) (base := $(I "base")) $(I "T"))
  | 0 => `(@pvN _ $(a[0]!) _ _ (by rfl) (by trivial) (by decide) (by decide))
  | 1 => if a.size = 1 then `(@JX _ _ _ _ _ $(a[0]!) (@cx _) (by rfl)) else `(@JX _ _ _ _ _ $(a[0]!) $(a[1]!) (by rfl))
  | 2 => `(@fX _ _ _ _)
  | 7 => `(by trivial)
  | 8 => `(by omega)
  | 3 => `(@yO _ _ _ _ _ _ _ _ _ _ _ _ _ _ _ _ $(I ("G_" ++ s 0)) ($(I "hr.mono") (by decide)) (by rfl) $(I ("T.m_" ++ s 0)) $(I ("T.F_" ++ s 0 ++ ".kp")) $(I ("T.b_" ++ s 0)) .nil aZ $(a[1]!) (by decide) (by rfl) (by rfl))
  | 4 => `(@gQ _ _ $(a[0]!) _ _ _ _ ($(a[1]!)).nd rfl (Or.inl rfl) $(a[2]!) (by rfl) (by trivial))
  | 5 => `(@yK _ _ $(a[0]!) _ ($(a[1]!)).nd rfl (Or.inl rfl) (by trivial))
  | 6 => `(@jY _ _ _ _ _ _ _ $(Lean.Syntax.mkStrLit (s 0)) _ $(a[1]!) (by rfl) $(I ("T.z_" ++ s 0)) (by decide +kernel) $(a[2]!) (by decide) (by decide) (by rfl) (by rfl))
  | 9 => `(@iG _ _ _ _ _ $(a)*)
  | 10 => `(@nP _ _ _ $(a)*)
  | 11 => `(@fV _ _ _ _ _ _ _ _ $(a)*)
  | 12 => `(@yd _ _ _ _ $(a)*)
  | 13 => `(@Gd _ _ _ _ _ _ _ $(a)*)
  | 14 => `(@Df _ _ _ _ _ _ _ _ $(a)*)
  | 15 => `(@yK _ _ $(a)*)
  | 16 => `(@Am _ _ _ _ _ $(a)*)
  | 17 => `(@Gb _ _ _ _ _ _ _ _ $(a)*)
  | 18 => `(@K4 _ _ _ _ $(a)*)
  | 19 => `(@Hh _ _ _ _ $(a)*)
  | 20 => `(@Ho _ _ _ _ $(a)*)
  | 21 => `(@K2 _ _ _ _ _ _ _ _ $(a)*)
  | 22 => `(@Hq _ _ _ _ _ _ _ _ _ _ _ $(a)*)
  | 23 => `(@An _ _ _ _ _ _ _ _ _ _ _ _ _ _ _ _ _ $(a)*)
  | 24 => `(@K1 _ _ _ _ $(a)*)
  | 25 => `(@Hf _ _ _ $(a)*)
  | 26 => `(@K5 _ _ _ _ _ $(a)*)
  | 27 => `(@yM _ _ _ _ _ $(a)*)
  | 28 => `(@Hn _ _ _ _ _ $(a)*)
  | 29 => `(@Oa _ _ _ _ _ _ _ $(a)*)
  | 30 => `(@fW _ _ _ $(a)*)
  | 31 => `(@Ht _ _ _ _ _ _ _ $(a)*)
  | 32 => `(@Hs _ _ $(a)*)
  | 33 => `(@Oc _ _ _ _ _ _ _ _ _ _ _ _ $(a)*)
  | 34 => `(@KZ _ _ _ _ $(a)*)
  | 35 => `(@Ak _ _ _ _ _ _ $(a)*)
  | 36 => `(@Hr _ _ _ _ _ _ _ _ $(a)*)
  | 37 => `(@Dk _ _ _ _ _ _ _ _ _ _ _ _ _ _ _ _ _ _ _ _ $(a)*)
  | 38 => `(@Dj _ _ _ _ _ _ _ _ _ _ $(a)*)
  | 39 => `(@Hj _ _ _ $(a)*)
  | 40 => `(@K7 _ _ _ _ _ $(a)*)
  | 41 => `(@K3 _ _ _ _ _ _ _ _ _ $(a)*)
  | 42 => `(@Ao _ _ _ _ _ _ _ _ _ $(a)*)
  | 43 => `(@Ob _ _ _ _ _ _ $(a)*)
  | 44 => `(@Hg _ _ _ _ _ _ _ _ _ _ _ _ _ $(a)*)
  | 45 => `(@Dl _ _ _ _ _ _ _ _ _ _ _ _ _ _ _ _ _ $(a)*)
  | _ => Lean.Macro.throwUnsupported
local macro_rules | `(∅) => `(by rfl)
local macro_rules | `(⋯) => `(by decide)
local macro_rules | `(tactic| ac_rfl) => `(tactic| simp! only [and_true])
local macro_rules | `(tactic| exists $x:ident) => `(tactic| replace $x := λ (_ : Unit) => $x)
section
variable {P:Program}{w:World}{K:PySem.W.Frag}{mg:Str->Option Value}{base:Heap}{t:Adr}
def gZ(ns:List Int)(k m:Int):Int:=(if k < (ns.length:Int) then ns.getD k.toNat 0 else (if 0 < (ns.length:Int) then ns.getD (k % (ns.length:Int)).toNat 0 % 999999937 * (48271+2 * k * k)+k * 69621 else k * k * 7919+104729) % 2147483647 * 16807 % 2147483629) % m
def yU{ns:List Int}{k z:Int}(h0:0<=k)(h1:k < (ns.length:Int))(hz:atI (ns.map V.int) k=some (.int z)):ns.getD k.toNat 0=z:=by
 obtain⟨n,rfl⟩:=QU h0;have hn:n < ns.length:=by omega
 have e:atI (ns.map V.int) (n:Int)=some (.int ns[n]):=cH (by rw [QL,QB hn];rfl);rw [hz] at e;have e2:=Q2 e;simp only [V.int.injEq] at e2;rw [QO,Rh,QB hn,e2];rfl
def JC{ns:List Int}{k m z:Int}(h0:0<=k)(h1:k < (ns.length:Int))(hz:atI (ns.map V.int) k=some (.int z)):gZ ns k m=z % m:=by
 unfold gZ;rw [if_pos h1,yU h0 h1 hz]
def JB{ns:List Int}{k m z:Int}(h1:¬ k < (ns.length:Int))(h2:0 < (ns.length:Int))(hz:atI (ns.map V.int) (k % (ns.length:Int))=some (.int z)):gZ ns k m=(z % 999999937 * (48271+2 * k * k)+k * 69621) % 2147483647 * 16807 % 2147483629 % m:=by
 unfold gZ;rw [if_neg h1,if_pos h2,yU (Int.emod_nonneg _ %[0|8]) (Int.emod_lt_of_pos _ h2) hz]
def JA{ns:List Int}{k m:Int}(h1:¬ k < (ns.length:Int))(h2:¬ 0 < (ns.length:Int)):gZ ns k m=(k * k * 7919+104729) % 2147483647 * 16807 % 2147483629 % m:=by
 unfold gZ;rw [if_neg h1,if_neg h2]
abbrev rk(K:PySem.W.Frag)(a:Addr)(ns:List Int)(k:Int)(m:Int)(H:Hp)(Q:VK)(E:XK):Prop:=SqL K H a (ns.map V.int)/\ns.length<=63/\(0<=k/\k < 1000)/\0 < m/\Q (.int (gZ ns k m)) H
def sI(K:W.Frag)(a:Addr)(ns:List Int):Sp:=λ vs H Q E=>∃ (k:Int) (m:Int),vs=[.ref a,.int k,.int m]/\(rk K a ns k m H Q E)
def qR(K:W.Frag)(a:Addr)(ns:List Int)(k:Int)(m:Int)(H:Hp)(Q:VK)(E:XK):sI K a ns [.ref a,.int k,.int m] H Q E=(rk K a ns k m H Q E):=gN (f:=λ (k:Int) (m:Int)=>[.ref a,.int k,.int m]) (λ _ _ _ _ h=>by cases h;exact⟨rfl,rfl⟩) k m
def iX(T:Tx K mg t)(a:Addr)(ns:List Int):bj P w K mg base CX0 1 t.a_Eb t.d_Eb ["_law_script", "_law_k", "_law_many"] (sI K a ns):=by
 refine T.F_Eb.ok fE (λ _ _ _ _ h=>gO h λ _ _=>rfl) (λ c A o s H vs Q E hr h=>?_)
 ·obtain⟨k,m,rfl,hS,hl,⟨aS,aX⟩,hm,kk⟩:=h
  refine⟨_,(iG (Gb (sP Kj (pv 1) (jY (id := "len") eu ∅ T.z_len nofun (JX (pv 0) cx)) (au _))
   (nP (yd (fV kg (Gd sU (pv 0) (pv 1) (λ _ _=>rfl)) (pv 2))))
   aq)
  (iG (gQ (i:=3) fE.nd rfl (Or.inl rfl) (fV uC (fV jG (fV jG (pv 1) (pv 1)) fX) fX))
  (iG (Gb (sP Kk (jY (id := "len") eu ∅ T.z_len nofun (JX (pv 0) cx)) fX (au _))
   (iG (gQ (i:=4) fE.nd rfl (Or.inl rfl) (fV kg (Gd sU (pv 0) (fV kg (pv 1) (jY (id := "len") eu ∅ T.z_len nofun (JX (pv 0) cx))) (λ _ _=>rfl)) fX))
   (nP (gQ (i:=3) fE.nd rfl (Or.inl rfl) (fV uC (fV jG (pv 4) (fV uC fX (fV jG (fV jG fX (pv 1)) (pv 1)))) (fV jG (pv 1) fX)))))
   aq)
  (nP (yd (fV kg (fV kg (fV jG (fV kg (pv 3) fX) fX) fX) (pv 2))))))),?_⟩
  refine⟨_,rfl,_,rfl,a,_,rfl,.inl hS,_,_,rfl,rfl,_,rfl,?_⟩;refine PX (λ h=>?_) (λ h=>?_)
  ·have h1:k < (ns.length:Int):=by simpa using h
   obtain⟨z,hz,_⟩:=oW ns k aS h1;exact⟨_,rfl,_,rfl,a,_,k,_,rfl,rfl,hS,hz,_,rfl,_,_,rfl,rfl,hm,by rw [JC aS h1 hz] at kk;exact kk⟩
  ·have h1:¬ k < (ns.length:Int):=by simpa using h
   refine⟨_,rfl,_,rfl,_,_,rfl,rfl,.inl ⟨by omega,by omega⟩,_,_,rfl,rfl,.inr ⟨by decide,by decide⟩,_,_,rfl,rfl,?_⟩;refine⟨_,rfl,a,_,rfl,.inl hS,_,_,rfl,rfl,_,rfl,?_⟩;refine PX (λ h2=>?_) (λ h2=>?_)
   ·have h3:0 < (ns.length:Int):=by simpa using h2
    have h4:(0:Int) < ((ns.map V.int).length:Int):=by simpa using h3
    obtain⟨z,hz,_⟩:=oW ns (k % ((ns.map V.int).length:Int)) (R3 _ %[0|8]) (by have:=RJ k h4;simpa using this);refine⟨_,rfl,_,rfl,_,rfl,a,_,rfl,.inl hS,_,_,rfl,rfl,h4,a,_,_,_,rfl,rfl,hS,hz,_,_,rfl,rfl,(by first|decide|(show (0:Int) < _;decide)),?_⟩;refine⟨_,rfl,_,rfl,_,_,rfl,rfl,.inl ⟨by decide,by decide⟩,_,rfl,_,_,rfl,rfl,.inr ⟨by omega,by omega⟩,_,_,rfl,rfl,_,_,rfl,rfl,?_,?_⟩
    ·refine .inl ⟨?_,?_⟩
     ·have:=R3 z (show (999999937:Int) ≠ 0 by decide);omega
     ·have:=RJ z (show (0:Int) < 999999937 by decide);omega
    refine⟨_,rfl,_,_,rfl,rfl,.inr ⟨by decide,by decide⟩,_,_,rfl,rfl,?_⟩;exact⟨_,rfl,_,_,rfl,rfl,(by first|decide|(show (0:Int) < _;decide)),_,_,rfl,rfl,.inr ⟨by decide,by decide⟩,_,_,rfl,rfl,(by first|decide|(show (0:Int) < _;decide)),_,rfl,_,_,rfl,rfl,hm,by rw [JB h1 h3 (show atI (ns.map V.int) (k % (ns.length:Int))=some (.int z) by rw [←hz,QE])] at kk;exact kk⟩
   ·exact⟨_,rfl,_,_,rfl,rfl,(by first|decide|(show (0:Int) < _;decide)),_,_,rfl,rfl,.inr ⟨by decide,by decide⟩,_,_,rfl,rfl,(by first|decide|(show (0:Int) < _;decide)),_,rfl,_,_,rfl,rfl,hm,by rw [JA h1 (show ¬ (0:Int) < (ns.length:Int) by simpa using h2)] at kk;exact kk⟩
def xX(K:W.Frag)(a:Addr)(ns:List Int):Sp:=λ vs H Q E=>∃ (k:Int) (m:Int),vs=[.ref a,.int k,.int m]/\(SqL K H a (ns.map V.int)/\ns.length<=63/\(0<=k/\k < 1000)/\0 < m/\∀ z:Int,0<=z->z < m->Q (.int z) H)
def bz(K:W.Frag)(a:Addr)(ns:List Int)(k:Int)(m:Int)(H:Hp)(Q:VK)(E:XK):xX K a ns [.ref a,.int k,.int m] H Q E=(SqL K H a (ns.map V.int)/\ns.length<=63/\(0<=k/\k < 1000)/\0 < m/\∀ z:Int,0<=z->z < m->Q (.int z) H):=gN (f:=λ (k:Int) (m:Int)=>[.ref a,.int k,.int m]) (λ _ _ _ _ h=>by cases h;exact⟨rfl,rfl⟩) k m
def Nl(K:W.Frag)(a:Addr)(ns:List Int){vs:List V}{H:Hp}{Q:VK}{E:XK}(h:xX K a ns vs H Q E):vs.length=3:=gO h λ _ _=>rfl
def er(T:Tx K mg t)(a:Addr)(ns:List Int):bj P w K mg base CX0 1 t.a_Eb t.d_Eb ["_law_script", "_law_k", "_law_many"] (xX K a ns):=(iX (P:=P) (w:=w) (base:=base) T a ns).imp λ vs H Q E h=>by
 obtain⟨k,m,e,hS,hl,hk,hm,kk⟩:=h;exact⟨k,m,e,hS,hl,hk,hm,kk _ (show 0<=gZ ns k m from R3 _ %[0|8]) (show gZ ns k m < m from RJ _ hm)⟩
def nM  : Sp:=λ vs H Q E=>∃ (x:V),vs=[x]/\(aH (isW H x) (kE4 H Q))
def bq  (x:V) (H:Hp) (Q:VK) (E:XK):nM  [x] H Q E=(aH (isW H x) (kE4 H Q)):=lX (f:=λ (x:V)=>[x]) (λ _ _ h=>by cases h;exact rfl) x
def o9(T:Tx K mg t):bj P w K mg base CX0 1 t.a_Bs t.d_Bs ["_law_found"] nM:=by
 refine T.F_Bs.ok rQ (λ _ _ _ _ h=>lU h λ _=>rfl) (λ c A o s H vs Q E hr h=>?_)
 ·obtain⟨x,rfl,h⟩:=h;obtain⟨b,hb,k⟩:=ai h;clear h;rw [Gk] at k;refine⟨_,%[%[%[%[isinstance,bb,%[%[0|0],%[%[(.ty "int"),(.type "int"),_,∅,T.z_int,nofun,rfl,⋯,⋯|32]|1]|1]|6],%[(@yL _ _ _ _ %[isinstance,bb,%[%[0|0],%[%[(.ty "bool"),(.type "bool"),_,∅,T.z_bool,nofun,rfl,⋯,⋯|32]|1]|1]|6])|40]|31]|12]|10],?_⟩;rw [show aw ["_law_found"] [x]=[some (x)] from rfl]
  cases x with
  | int i=>cases hb;ac_rfl
  | bl i=>cases hb;ac_rfl
  | non=>cases hb;ac_rfl
  | str i=>cases hb;ac_rfl
  | ref p=>
   obtain⟨rfl,o,ho,ht⟩:=kr hb
   rcases ht with ht|ht|ht<;>ac_rfl
  | _=>cases hb
def dN(T:Tx K mg t):bj P w K mg base CX0 1 t.a_Eg t.d_Eg ["thing"] nM:=by
 refine T.F_Eg.ok xo (λ _ _ _ _ h=>lU h λ _=>rfl) (λ c A o s H vs Q E hr h=>?_)
 ·obtain⟨x,rfl,h⟩:=h;obtain⟨b,hb,k⟩:=ai h;clear h;rw [Gk] at k;refine⟨_,%[%[%[%[isinstance,bb,%[%[0|0],%[%[(.ty "int"),(.type "int"),_,∅,T.z_int,nofun,rfl,⋯,⋯|32]|1]|1]|6],%[(@yL _ _ _ _ %[isinstance,bb,%[%[0|0],%[%[(.ty "bool"),(.type "bool"),_,∅,T.z_bool,nofun,rfl,⋯,⋯|32]|1]|1]|6])|40]|31]|12]|10],?_⟩;rw [show aw ["thing"] [x]=[some (x)] from rfl]
  cases x with
  | int i=>cases hb;ac_rfl
  | bl i=>cases hb;ac_rfl
  | non=>cases hb;ac_rfl
  | str i=>cases hb;ac_rfl
  | ref p=>
   obtain⟨rfl,o,ho,ht⟩:=kr hb
   rcases ht with ht|ht|ht<;>ac_rfl
  | _=>cases hb
def kSz(F:List Int->Prop):List Int->Prop:=λ ns=>dS ns/\F ns
def pR(F:List Int->Prop)(ns:List Int):kSz F ns=(dS ns/\F ns):=rfl
def NU(H:Hp)(Q:VK):List Int->Prop:=λ ns=>Q (.int (ae ns)) H
def pS(H:Hp)(Q:VK)(ns:List Int):NU H Q ns=Q (.int (ae ns)) H:=rfl
def sJ  : Sp:=λ vs H Q E=>∃ (p:Addr),vs=[.ref p]/\(aH (az H p) (dR (kSz (NU H Q))))
def iU  (p:Addr) (H:Hp) (Q:VK) (E:XK):sJ  [.ref p] H Q E=(aH (az H p) (dR (kSz (NU H Q)))):=lX (f:=λ (p:Addr)=>[.ref p]) (λ _ _ h=>by cases h;exact rfl) p
def fA(T:Tx K mg t):bj P w K mg base CX0 1 t.a_Eh t.d_Eh ["sizes"] sJ:=by
 refine T.F_Eh.ok gM (λ _ _ _ _ h=>lU h λ _=>rfl) (λ c A o s H vs Q E hr h=>?_)
 ·obtain⟨p,rfl,h⟩:=h;obtain⟨xs,hp,ns,rfl,hs,k⟩:=ai h;replace hp:=bp hp;rw [pS] at k;refine⟨_,%[%[1,gM,%[0|2]|4],%[%[QT,rfl,%[%[0|0]|18],%[2,gM|5],%[%[1,gM,%[yP,%[1|0],%[2|0]|11]|4]|10],(by intros;rfl)|21],%[%[%[1|0]|12]|10]|9]|9],?_⟩;rw [show aw ["sizes", "count", "size"] [.ref p]=[some (.ref p),none,none] from rfl];ac_rfl;refine cG (xs:=ns.map V.int) (λ i σ H'=>∃ v:Option V,σ=[some (.ref p),some (.int (ae (ns.take i))),v]/\H'=H) ⟨_,rfl,rfl⟩ (λ i σ H' _ ⟨_,_,e⟩=>by subst e;exact hp) ?_ ?_
  ·rintro i x _ _ hi ⟨v,rfl,rfl⟩;rw [QL] at hi;obtain⟨z,hz,rfl⟩:=QJ.mp hi;have e:=jq ns i z hz;have b1:=(hs.take i).prod;have b2:=hs.2 z (QV hz)
   have c1:(ae (ns.take i)).natAbs < 2 ^ 256:=by
    generalize ae (ns.take i)=y at b1;have:(1000000000:Int) ^ 8 < 2 ^ 256:=by decide
    omega
   have c2:z.natAbs < 2 ^ 256:=by omega
   clear b1 b2;simp! only [↓aA,vm];exact⟨_,rfl⟩
  ·rintro _ _ ⟨v,rfl,rfl⟩;rw [QE,Rz];ac_rfl
def oh  : Sp:=λ vs H Q E=>∃ (i:Int) (lo:Int) (hi:Int),vs=[.int i,.int lo,.int hi]/\(Q (.bl (decide (lo<=i) && decide (i<=hi))) H)
def m9  (i:Int) (lo:Int) (hi:Int) (H:Hp) (Q:VK) (E:XK):oh  [.int i,.int lo,.int hi] H Q E=(Q (.bl (decide (lo<=i) && decide (i<=hi))) H):=B2 (f:=λ (i:Int) (lo:Int) (hi:Int)=>[.int i,.int lo,.int hi]) (λ _ _ _ _ _ _ h=>by cases h;exact⟨rfl,rfl,rfl⟩) i lo hi
def jJ(T:Tx K mg t):bj P w K mg base CX0 2 t.a_D0 t.d_D0 ["thing", "low", "high"] oh:=by
 have G_Eg:=%[dN|46];refine T.F_D0.ok uk (λ _ _ _ _ h=>B3 h λ _ _ _=>rfl) (λ c A o s H vs Q E hr h=>?_)
 ·obtain⟨i,lo,hi,rfl,k⟩:=h;refine⟨_,%[%[%[%[Eg,%[%[0|0]|1]|3],%[(@qu _ _ _ _ _ _ _ _ _ _ _ _ sf sf %[1|0] %[0|0] %[2|0] ∅)|40]|31]|12]|10],?_⟩;rw [show aw ["thing", "low", "high"] [.int i,.int lo,.int hi]=[some (.int i),some (.int lo),some (.int hi)] from rfl]
  by_cases h0:lo<=i
  ·rw [Q4 h0,UJ] at k;simp! only [↓bq]
  ·rw [Ro h0,Uv] at k;simp! only [↓bq]
def xJ  : Sp:=λ vs H Q E=>∃ (i:Int),vs=[.int i]/\(Q (.bl (decide (1<=i) && decide (i<=1000000000))) H)
def EM  (i:Int) (H:Hp) (Q:VK) (E:XK):xJ  [.int i] H Q E=(Q (.bl (decide (1<=i) && decide (i<=1000000000))) H):=lX (f:=λ (i:Int)=>[.int i]) (λ _ _ h=>by cases h;exact rfl) i
def wm(T:Tx K mg t):bj P w K mg base CX0 3 t.a_I0 t.d_I0 ["thing"] xJ:=by
 have G_D0:=%[jJ|46];refine T.F_I0.ok BW (λ _ _ _ _ h=>lU h λ _=>rfl) (λ c A o s H vs Q E hr h=>?_)
 ·obtain⟨i,rfl,k⟩:=h;refine⟨_,%[%[%[D0,%[%[0|0],%[%[0|2],%[(@nQ _ _ (.int 1000000000) _ _ ∅ T.m_MOST_SIZE.choose_spec ⟨_,rfl⟩ ⋯)|1]|1]|1]|3]|12]|10],?_⟩;rw [show aw ["thing"] [.int i]=[some (.int i)] from rfl];simp! only [↓m9]
abbrev vH  (p:Addr) (H:Hp) (Q:VK) (E:XK):Prop:=∃ a:Int × Int,H p=some (.tup [.int a.1,.int a.2])/\1<=a.1/\a.1<=1000000000/\Q (.bl true) H
def xZ  : Sp:=λ vs H Q E=>∃ (p:Addr),vs=[.ref p]/\(vH  p H Q E)
def EX  (p:Addr) (H:Hp) (Q:VK) (E:XK):xZ  [.ref p] H Q E=(vH  p H Q E):=lX (f:=λ (p:Addr)=>[.ref p]) (λ _ _ h=>by cases h;exact rfl) p
def wt(T:Tx K mg t):bj P w K mg base CX0 4 t.a_Ja t.d_Ja ["thing"] xZ:=by
 have G_I0:=%[wm|46];have G_Eg:=%[dN|46];refine T.F_Ja.ok BY (λ _ _ _ _ h=>lU h λ _=>rfl) (λ c A o s H vs Q E hr h=>?_)
 ·obtain⟨p,rfl,a,hp,h1,h2,k⟩:=h;refine⟨_,%[%[%[%[isinstance,bb,%[%[0|0],%[%[(.ty "tuple"),(.type "tuple"),_,∅,T.z_tuple,nofun,rfl,⋯,⋯|32]|1]|1]|6],%[%[(cy hr.units),%[len,ak,%[%[0|0]|1]|6],%[0|2],(au _)|36],%[%[I0,%[%[bY,%[0|0],%[0|2],(λ _ _=>rfl)|13]|1]|3],%[%[Eg,%[%[bY,%[0|0],%[0|2],(λ _ _=>rfl)|13]|1]|3]|40]|31]|31]|31]|12]|10],?_⟩;rw [show aw ["thing"] [.ref p]=[some (.ref p)] from rfl];simp! only [↓EM,↓bq]
abbrev vD  (p:Addr) (H:Hp) (Q:VK) (E:XK):Prop:=∃ a:Int × Int,H p=some (.tup [.int a.1,.int a.2])/\∀ (r:Addr) (H':Hp),H r=none->Ext H H'->H' r=some (.tup [.int (aB a).1,.int (aB a).2])->Q (.ref r) H'
def xU  : Sp:=λ vs H Q E=>∃ (p:Addr),vs=[.ref p]/\(vD  p H Q E)
def EW  (p:Addr) (H:Hp) (Q:VK) (E:XK):xU  [.ref p] H Q E=(vD  p H Q E):=lX (f:=λ (p:Addr)=>[.ref p]) (λ _ _ h=>by cases h;exact rfl) p
def rB(T:Tx K mg t):bj P w K mg base CX0 1 t.a_D4 t.d_D4 ["axis"] xU:=by
 refine T.F_D4.ok uj (λ _ _ _ _ h=>lU h λ _=>rfl) (λ c A o s H vs Q E hr h=>?_)
 ·obtain⟨p,rfl,a,hp,k⟩:=h;refine⟨_,%[%[%[%[%[bY,%[0|0],%[0|2],(λ _ _=>rfl)|13],%[(@oI _ _ _ _ _ _ _ _ %[si,%[bY,%[0|0],%[0|2],(λ _ _=>rfl)|13],%[0|2],(au _)|14] %[bY,%[0|0],%[0|2],(λ _ _=>rfl)|13] %[0|2])|1]|1]|28]|12]|10],?_⟩;rw [show aw ["axis"] [.ref p]=[some (.ref p)] from rfl];have e1:(aB a).1=a.1:=rfl
  by_cases h1:1 < a.1
  ·have e2:(aB a).2=a.2:=Rc h1;rw [e1,e2] at k;ac_rfl;exact λ r H' h e h'=>k r H' h e h'
  ·have e2:(aB a).2=0:=Q5 h1;rw [e1,e2] at k;ac_rfl;exact λ r H' h e h'=>k r H' h e h'
abbrev vI  (p:Addr) (H:Hp) (Q:VK) (E:XK):Prop:=∃ axs:List (Int × Int),aP H p (axL axs)/\fh axs/\∀ H',Ext H H'->Q (.bl true) H'
def x5  : Sp:=λ vs H Q E=>∃ (p:Addr),vs=[.ref p]/\(vI  p H Q E)
def EY  (p:Addr) (H:Hp) (Q:VK) (E:XK):x5  [.ref p] H Q E=(vI  p H Q E):=lX (f:=λ (p:Addr)=>[.ref p]) (λ _ _ h=>by cases h;exact rfl) p
def tL(T:Tx K mg t):bj P w K mg base CX0 5 t.a_IV t.d_IV ["thing"] x5:=by
 have G_Ja:=%[wt|46];refine T.F_IV.ok xq (λ _ _ _ _ h=>lU h λ _=>rfl) (λ c A o s H vs Q E hr h=>?_)
 ·obtain⟨p,rfl,axs,⟨ys,hp,al⟩,ha,k⟩:=h;refine⟨_,%[%[%[%[isinstance,bb,%[%[0|0],%[%[(.ty "list"),(.type "list"),_,∅,T.z_list,nofun,rfl,⋯,⋯|32]|1]|1]|6],%[%[sf,%[len,ak,%[%[0|0]|1]|6],(@nQ _ _ (.int 8) _ _ ∅ T.m_MOST_AXES.choose_spec ⟨_,rfl⟩ ⋯),(au _)|36],%[%[all,(kX rfl),%[%[(["axis", "thing"]),(1),(aC (aa gD) ["thing"] rfl rfl nofun),rfl,%[%[0|0]|18],(λ C s₀ H₀ ex pn=>%[(0),_,(show List.Nodup (["axis", "thing"]:List Str) from by decide +kernel),rfl,(Or.inl rfl),%[0|7]|15]),(λ C s₀ H₀ ex pn=>(@aI _)),(λ C s₀ H₀ ex pn=>%[Ja,%[%[0|0]|1]|3]),(by intros;rfl)|22]|1]|6]|40]|31]|31]|12]|10],?_⟩;rw [show aw ["thing"] [.ref p]=[some (.ref p)] from rfl];have hl:ys.length=axs.length:=by rw [al.1];unfold axL;rw [length_map]
  have a7:(axs.length:Int)<=8:=by have:=ha.1;omega
  ac_rfl;refine bc ys (λ _=>true) (λ _=>.bl true) (λ z x H'=>x=z/\H' p=some (.lst ys)) (uz hp).1 (uz hp).2 (aj %[0|8]) ?_ ?_
  ·intro D z x H' N1 N0 hz hD e ⟨hx,_⟩ k1 _;subst hx;obtain⟨i,hi,rfl⟩:=SH hz;have aS:i < axs.length:=by rw [←hl];exact hi
   obtain⟨q,a3,a4⟩:=al.2 i [axs[i].1,axs[i].2] ys[i] (by unfold axL;rw [getElem?_map,getElem?_eq_getElem aS];rfl) (getElem?_eq_getElem hi);have hb:=ha.2 _ (getElem_mem aS);have a5:=k1 rfl H' (Ext.refl _);have a6:=e.at a4;rw [a3];clear k1 k hp al;simp! only [↓aV,↓aO];rw [EX];exact⟨axs[i],a6,hb.1,hb.2,a5⟩
  ·intro D H' hD e aX;have a8:H' D=some (.lst ((ys.map λ _=>true).map V.bl)):=by rw [aX,jc,Rq];rfl
   have e2:((ys.map λ _=>true).all id)=true:=by rw [all_map];simp
   have k2:=k H' e;clear k aX;ac_rfl
def cu{zs:List (List Int)}{ys:List V}{H:Hp}(al:Al (bD H) zs ys){i:Nat}{y:V}(h:ys[i]? = some y):∃ z,zs[i]? = some z/\bD H z y:=by
 have hi:i < ys.length:=(QD.mp h).1;have hz:zs[i]? = some (zs[i]'(by rw [←al.1];exact hi)):=QB _;exact⟨_,hz,al.2 i _ y hz h⟩
def yo(x:V)(b:Int)(H:Hp)(Q:VK):Bool->Prop:=λ _=>Q (.bl (fY x b)) H
def jT(x:V)(b:Int)(H:Hp)(Q:VK)(c:Bool):yo x b H Q c=Q (.bl (fY x b)) H:=rfl
def sN  : Sp:=λ vs H Q E=>∃ (x:V) (b:Int),vs=[x,.int b]/\(aH (isW H x) (yo x b H Q))
def k9  (x:V) (b:Int) (H:Hp) (Q:VK) (E:XK):sN  [x,.int b] H Q E=(aH (isW H x) (yo x b H Q)):=gN (f:=λ (x:V) (b:Int)=>[x,.int b]) (λ _ _ _ _ h=>by cases h;exact⟨rfl,rfl⟩) x b
def cO(T:Tx K mg t):bj P w K mg base CX0 2 t.a_t6 t.d_t6 ["thing", "bound"] sN:=by
 have G_Eg:=%[dN|46];refine T.F_t6.ok jD (λ _ _ _ _ h=>gO h λ _ _=>rfl) (λ c A o s H vs Q E hr h=>?_)
 ·obtain⟨x,b,rfl,h⟩:=h;obtain⟨c,hw,k⟩:=ai h;rw [jT] at k;refine⟨_,%[%[%[%[Eg,%[%[0|0]|1]|3],%[(@qu _ _ _ _ _ _ _ _ _ _ _ _ sf vN %[0|2] %[0|0] %[1|0] ∅)|40]|31]|12]|10],?_⟩;rw [show aw ["thing", "bound"] [x,.int b]=[some (x),some (.int b)] from rfl]
  cases x with
  | int i=>
   cases hw;have k':Q (.bl (decide (0<=i) && decide (i < b))) H:=k;clear k h
   by_cases h0:0<=i
   ·rw [Q4 h0,UJ] at k';simp! only [↓bq]
   ·rw [Ro h0,Uv] at k';simp! only [↓bq]
  | bl i=>cases hw;have k':Q (.bl false) H:=k;clear k h;simp! only [↓bq]
  | non=>cases hw;have k':Q (.bl false) H:=k;clear k h;simp! only [↓bq]
  | str i=>cases hw;have k':Q (.bl false) H:=k;clear k h;simp! only [↓bq]
  | ref p=>
   obtain⟨rfl,o,ho,ht⟩:=kr hw;have k':Q (.bl false) H:=k;clear k h;simp! only [↓bq]
  | _=>cases hw
def kPl(x:V)(H:Hp)(Q:VK):List Int->Prop:=λ ns=>sv H x/\∀ H',Ext H H'->Q (.bl (pW ns x H)) H'
def N8(x:V)(H:Hp)(Q:VK)(ns:List Int):kPl x H Q ns=(sv H x/\∀ H',Ext H H'->Q (.bl (pW ns x H)) H'):=rfl
def kG  : Sp:=λ vs H Q E=>∃ (p:Addr) (x:V),vs=[.ref p,x]/\(aH (az H p) (dR (kSz (kPl x H Q))))
def uf  (p:Addr) (x:V) (H:Hp) (Q:VK) (E:XK):kG  [.ref p,x] H Q E=(aH (az H p) (dR (kSz (kPl x H Q)))):=gN (f:=λ (p:Addr) (x:V)=>[.ref p,x]) (λ _ _ _ _ h=>by cases h;exact⟨rfl,rfl⟩) p x
def tJ(T:Tx K mg t):bj P w K mg base CX0 3 t.a_Ej t.d_Ej ["sizes", "thing"] kG:=by
 have G_t6:=%[cO|46];refine T.F_Ej.ok xp (λ _ _ _ _ h=>gO h λ _ _=>rfl) (λ c A o s H vs Q E hr h=>?_)
 ·obtain⟨p,x,rfl,h⟩:=h;obtain⟨a6,hp,ns,rfl,hs,hk,k⟩:=ai h;replace hp:=bp hp;refine⟨_,%[%[(PW.pt %[%[%[%[isinstance,bb,%[%[1|0],%[%[(.ty "tuple"),(.type "tuple"),_,∅,T.z_tuple,nofun,rfl,⋯,⋯|32]|1]|1]|6],(by intros;rfl)|25]|24],%[%[(c9 hr.units),%[len,ak,%[%[1|0]|1]|6],%[len,ak,%[%[0|0]|1]|6],(au _)|14]|34]|29]),%[%[(@fW _ _ _ _)|12]|10],(@aq _)|17],%[%[%[all,(kX rfl),%[%[(["number", "size", "sizes", "thing"]),(2),(aC (aa gC) ["sizes", "thing"] rfl rfl nofun),rfl,%[∅,T.z_zip,%[%[1|0],%[%[0|0]|1]|1],∅,∅|41],(λ C s₀ H₀ ex pn=>(%[(2),rfl,%[%[(0),_,(show List.Nodup (["number", "size", "sizes", "thing"]:List Str) from by decide +kernel),rfl,(Or.inl rfl),%[0|7]|15],%[%[(1),_,(show List.Nodup (["number", "size", "sizes", "thing"]:List Str) from by decide +kernel),rfl,(Or.inl rfl),%[0|7]|15],(@aL _),∅|16],∅|16],∅,∅|26].mono λ _ _ _ _ h=>b0 h)),(λ C s₀ H₀ ex pn=>(@aI _)),(λ C s₀ H₀ ex pn=>%[t6,%[%[0|0],%[%[1|0]|1]|1]|3]),(by intros;rfl)|22]|1]|6]|12]|10]|9],?_⟩;rw [show aw ["sizes", "thing"] [.ref p,x]=[some (.ref p),some (x)] from rfl]
  cases x with
  | int i=>have k':Q (.bl false) H:=k H (Ext.refl _);clear k h;ac_rfl
  | bl i=>have k':Q (.bl false) H:=k H (Ext.refl _);clear k h;ac_rfl
  | non=>have k':Q (.bl false) H:=k H (Ext.refl _);clear k h;ac_rfl
  | str i=>have k':Q (.bl false) H:=k H (Ext.refl _);clear k h;ac_rfl
  | ref q=>
   obtain⟨b,hb⟩:=S8.mp hk.1;obtain⟨rfl,o,ho,ht⟩:=kr hb;have aX:pW ns (.ref q) H=pV ns (some o):=by rw [←ho];rfl
   rw [aX] at k;clear aX h hb
   cases o with
   | tup xs=>
    by_cases hl:xs.length=ns.length
    ·have aS:pV ns (some (.tup xs))=(xs.zip ns).all λ p=>fY p.1 p.2:=by show (decide _ && _)=_;rw [Q4 hl,UJ]
     rw [aS] at k;clear aS ht;ac_rfl;refine bc (xs.zip (ns.map V.int)) (λ _=>true) (λ z=>.bl (fY z.1 (vi z.2))) E2 (jF (ka:=true) (kb:=false) ho hp).1 (jF (ka:=true) (kb:=false) ho hp).2 (of_eq_true (Ks _ (by have:=hs.1;rw [Sy,QE];omega))) ?_ ?_
     ·intro D z y H' N1 N0 hz hD e ⟨r,a4,a7⟩ k1 _;subst a4;obtain⟨x0,n0⟩:=z;have hm:=SF hz;obtain⟨n,_,rfl⟩:=QG.mp hm.2;obtain⟨c,hc⟩:=S8.mp (hk.2 q xs rfl ho x0 hm.1);have a8:=Ji e hc;have a5:=k1 rfl H' (Ext.refl _);rw [show vi (V.int n,()).1=n from rfl] at a5;clear k1 k hc hm hz;simp! only [↓dg,↓aO,↓k9,↓jT]
     ·intro D H' hD e a3
      have a9:H' D=some (.lst (((xs.zip ns).map λ p=>fY p.1 p.2).map V.bl)):=by
       rw [a3,jc,O8,Rq,Rq];rfl
      have k2:=k H' e;have e2:(((xs.zip ns).map λ p=>fY p.1 p.2).all id)=(xs.zip ns).all λ p=>fY p.1 p.2:=by rw [all_map];rfl
      clear k a3;ac_rfl
    ·have aS:pV ns (some (.tup xs))=false:=by show (decide _ && _)=_;rw [Ro hl,Uv]
     rw [aS] at k;have k':=k H (Ext.refl _);have bt:¬ ((xs.length:Int)=(ns.length:Int)):=by omega
     clear k aS;ac_rfl
   | lst xs=>have k':Q (.bl false) H:=k H (Ext.refl _);clear k;ac_rfl
   | dK xs=>have k':Q (.bl false) H:=k H (Ext.refl _);clear k;ac_rfl
   | dT xs=>have k':Q (.bl false) H:=k H (Ext.refl _);clear k ht;have ht:tyO (.dT xs)=some "dict":=rfl;ac_rfl
   | frz ob u=>
    cases u with
    | lst ys=>have k':Q (.bl false) H:=k H (Ext.refl _);clear k ht;have ht:tyO (.frz ob (.lst ys))=some "list":=rfl;ac_rfl
    | _=>rcases ht with ht|ht|ht<;>cases ht
   | _=>rcases ht with ht|ht|ht<;>cases ht
  | _=>cases hk.1
def JY(x:Int)(H:Hp)(Q:VK):List Int->Prop:=λ ns=>∀ (r:Addr) (H':Hp),H r=none->Ext H H'->H' r=some (.tup ((ao ns x).map V.int))->Q (.ref r) H'
def uy(x:Int)(H:Hp)(Q:VK)(ns:List Int):JY x H Q ns=∀ (r:Addr) (H':Hp),H r=none->Ext H H'->H' r=some (.tup ((ao ns x).map V.int))->Q (.ref r) H':=rfl
def sA  : Sp:=λ vs H Q E=>∃ (p:Addr) (x:Int),vs=[.ref p,.int x]/\(aH (az H p) (dR (kSz (JY x H Q))))
def qP  (p:Addr) (x:Int) (H:Hp) (Q:VK) (E:XK):sA  [.ref p,.int x] H Q E=(aH (az H p) (dR (kSz (JY x H Q)))):=gN (f:=λ (p:Addr) (x:Int)=>[.ref p,.int x]) (λ _ _ _ _ h=>by cases h;exact⟨rfl,rfl⟩) p x
def gq(T:Tx K mg t):bj P w K mg base CX0 1 t.a_wR t.d_wR ["sizes", "number"] sA:=by
 refine T.F_wR.ok b9 (λ _ _ _ _ h=>gO h λ _ _=>rfl) (λ c A o s H vs Q E hr h=>?_)
 ·obtain⟨p,x,rfl,h⟩:=h;obtain⟨xs,hp,ns,rfl,hs,k⟩:=ai h;replace hp:=bp hp;rw [uy] at k;refine⟨_,%[%[2,b9,%[(@cx _)|20]|4],%[%[3,b9,%[1|0]|4],%[%[QT,rfl,(@Fl _ _ _ _ _ _ ∅ T.z_reversed %[%[0|0]|1] ∅),%[4,b9|5],%[%[%[Q3,RG,RF,b8,%[2|0],%[%[pY,%[3|0],%[4|0]|11]|1],∅,∅,∅,∅,∅|33],∅|19],%[%[3,b9,%[kn,%[3|0],%[4|0]|11]|4]|10]|9],(by intros;rfl)|21],%[%[(@ye _ _ _ _ _ _ _ _ _ Q3 TZ TY js %[2|0] ∅ ∅),∅|19],%[%[%[iw,∅,T.z_tuple,nofun,%[%[2|0]|1],⋯,⋯,∅,∅|42]|12]|10]|9]|9]|9]|9],?_⟩;rw [show aw ["sizes", "number", "place", "left", "size"] [.ref p,.int x]=[some (.ref p),some (.int x),none,none,none] from rfl];ac_rfl;intro r H1 aS e1 h1;have aX:r ≠ p:=λ z=>by rw [z,hp] at aS;cases aS
  have a3:=e1.at hp
  try ac_rfl
  refine yW (xs:=ns.map V.int) (λ i σ H'=>∃ v:Option V,σ=[some (.ref p),some (.int x),some (.ref r),some (.int (x / ae (ns.drop (ns.length - i)))),v]/\Ext H H'/\H' r=some (.lst ((ao (ns.drop (ns.length - i)) x).reverse.map V.int))) ⟨none,by simp [ae],e1,by simpa [ao] using h1⟩ (λ i σ H' _ ⟨_,_,e,_⟩=>SqL.of (e.at hp)) ?_ ?_
  ·rintro i y _ H2 hi hx ⟨v,rfl,e2,h2⟩;rw [QE] at hi hx;rw [QL] at hx;obtain⟨z,hz,rfl⟩:=QJ.mp hx;have b1:=(hs.drop (ns.length - i)).prod;have b2:=hs.2 z (QV hz);have e:=Bc ns x i z hi hz %[0|8];have e':=tu ns x i z hi hz
   have a4:((ao (ns.drop (ns.length - i)) x).reverse).length < sizeLine:=by
    rw [Uw,br];exact of_eq_true (Kr _ (by have:=hs.1;simp;omega))
   have z0:0 < z:=by omega
   have z1:z < 1073741824:=by omega
   clear b1 b2;simp! only [↓aA];exact⟨_,rfl,e2.put aS,by rw [RA];rfl⟩
  ·rintro _ H2 ⟨v,rfl,e2,h2⟩;rw [QE,Nat.sub_self,Ut] at h2;ac_rfl;intro q H3 hq e3 h3;exact k q H3 ((e2.put aS).free hq) ((e2.put aS).trans e3) (by rw [h3,←U0,List.reverse_reverse])
def NH(H:Hp)(Q:VK):List Int->Prop:=λ ns=>∀ (r:Addr) (H':Hp),H r=none->Ext H H'->H' r=some (.lst ((fO ns).map V.int))->Q (.ref r) H'
def E6(H:Hp)(Q:VK)(ns:List Int):NH H Q ns=∀ (r:Addr) (H':Hp),H r=none->Ext H H'->H' r=some (.lst ((fO ns).map V.int))->Q (.ref r) H':=rfl
def sF  : Sp:=λ vs H Q E=>∃ (p:Addr),vs=[.ref p]/\(aH (az H p) (dR (kSz (NH H Q))))
def BQ  (p:Addr) (H:Hp) (Q:VK) (E:XK):sF  [.ref p] H Q E=(aH (az H p) (dR (kSz (NH H Q)))):=lX (f:=λ (p:Addr)=>[.ref p]) (λ _ _ h=>by cases h;exact rfl) p
def tI(T:Tx K mg t):bj P w K mg base CX0 1 t.a_Ei t.d_Ei ["sizes"] sF:=by
 refine T.F_Ei.ok fg (λ _ _ _ _ h=>lU h λ _=>rfl) (λ c A o s H vs Q E hr h=>?_)
 ·obtain⟨p,rfl,h⟩:=h;obtain⟨xs,hp,ns,rfl,hs,k⟩:=ai h;replace hp:=bp hp;rw [E6] at k;refine⟨_,%[%[1,fg,%[(@cx _)|20]|4],%[%[2,fg,%[0|2]|4],%[%[QT,rfl,(@Fl _ _ _ _ _ _ ∅ T.z_reversed %[%[0|0]|1] ∅),%[3,fg|5],%[%[%[Q3,RG,RF,b8,%[1|0],%[%[2|0]|1],∅,∅,∅,∅,∅|33],∅|19],%[%[2,fg,%[yP,%[2|0],%[3|0]|11]|4]|10]|9],(by intros;rfl)|21],%[%[(@ye _ _ _ _ _ _ _ _ _ Q3 TZ TY js %[1|0] ∅ ∅),∅|19],%[%[%[1|0]|12]|10]|9]|9]|9]|9],?_⟩;rw [show aw ["sizes", "paces", "pace", "size"] [.ref p]=[some (.ref p),none,none,none] from rfl];ac_rfl;intro r H1 aS e1 h1;have aX:=e1.at hp;have a3:r ≠ p:=λ z=>by rw [z,hp] at aS;cases aS
  ac_rfl;refine yW (xs:=ns.map V.int) (λ i σ H'=>∃ v:Option V,σ=[some (.ref p),some (.ref r),some (.int (ae (ns.drop (ns.length - i)))),v]/\Ext H H'/\H' r=some (.lst ((fO (ns.drop (ns.length - i))).reverse.map V.int))) ⟨none,by simp [ae],e1,by simpa [fO] using h1⟩ (λ i σ H' _ ⟨_,_,e,_⟩=>SqL.of (e.at hp)) ?_ ?_
  ·rintro i x _ H2 hi hx ⟨v,rfl,e2,h2⟩;rw [QE] at hi hx;rw [QL] at hx;obtain⟨z,hz,rfl⟩:=QJ.mp hx;have e:=mP ns i z hi hz;have e':=tG ns i z hi hz;have b1:=(hs.drop (ns.length - i)).prod;have b2:=hs.2 z (QV hz)
   have a4:((fO (ns.drop (ns.length - i))).reverse).length < sizeLine:=by
    rw [Uw,mR];exact of_eq_true (Kr _ (by have:=hs.1;simp;omega))
   have c1:(ae (ns.drop (ns.length - i))).natAbs < 2 ^ 256:=by
    generalize ae (ns.drop (ns.length - i))=y at b1;have:(1000000000:Int) ^ 8 < 2 ^ 256:=by decide
    omega
   have c2:z.natAbs < 2 ^ 256:=by omega
   clear b1 b2;simp! only [↓aA,vm];exact⟨_,rfl,e2.put aS,by rw [RA];rfl⟩
  ·rintro _ H2 ⟨v,rfl,e2,h2⟩;rw [QE,Nat.sub_self,Ut] at h2;ac_rfl;exact k r _ aS (e2.put aS) (by rw [ar,←U0,List.reverse_reverse])
def kF  : Sp:=λ vs H Q E=>∃ (p:Addr) (i:Int),vs=[.ref p,.int i]/\(∃ ns:List Int,H p=some (.lst (ns.map V.int))/\dS ns/\0<=i/\i < ae ns/\JY i H Q ns)
def lF  (p:Addr) (i:Int) (H:Hp) (Q:VK) (E:XK):kF  [.ref p,.int i] H Q E=(∃ ns:List Int,H p=some (.lst (ns.map V.int))/\dS ns/\0<=i/\i < ae ns/\JY i H Q ns):=gN (f:=λ (p:Addr) (i:Int)=>[.ref p,.int i]) (λ _ _ _ _ h=>by cases h;exact⟨rfl,rfl⟩) p i
def tH(T:Tx K mg t):bj P w K mg base CX0 3 t.a_IU t.d_IU ["sizes", "number"] kF:=by
 have G_Eh:=%[fA|46];have G_t6:=%[cO|46];have G_wR:=%[gq|46];refine T.F_IU.ok xn (λ _ _ _ _ h=>gO h λ _ _=>rfl) (λ c A o s H vs Q E hr h=>?_)
 ·obtain⟨p,i,rfl,ns,hp,hs,i0,i1,k1⟩:=h
  have aS:fY (.int i) (ae ns)=true:=by
   show (decide (0<=i) && decide (i < ae ns))=true
   rw [Q4 i0,Q4 i1];rfl
  refine⟨_,%[%[%[%[%[t6,%[%[1|0],%[%[Eh,%[%[0|0]|1]|3]|1]|1]|3],(by intros;rfl)|25]|24],%[(@cj _ _)|10],(@aq _)|17],%[%[%[wR,%[%[0|0],%[%[1|0]|1]|1]|3]|12]|10]|9],?_⟩;rw [show aw ["sizes", "number"] [.ref p,.int i]=[some (.ref p),some (.int i)] from rfl];simp! only [↓iU,↓pR,↓pS,↓k9,↓jT,↓qP]
abbrev vB(cT:Addr)(n:Int)(H:Hp)(Q:VK)(E:XK):Prop:=(n<=4096->Q .non H)/\¬ 4096 < n
def xS(cT:Addr):Sp:=λ vs H Q E=>∃ (n:Int),vs=[.int n]/\(vB cT n H Q E)
def oT(cT:Addr)(n:Int)(H:Hp)(Q:VK)(E:XK):xS cT [.int n] H Q E=(vB cT n H Q E):=lX (f:=λ (n:Int)=>[.int n]) (λ _ _ h=>by cases h;exact rfl) n
def eN(T:Tx K mg t):bj P w K mg base CX0 3 t.a_Bd t.d_Bd ["count"] (xS t.a_Ve):=by
 refine T.F_Bd.ok pL (λ _ _ _ _ h=>lU h λ _=>rfl) (λ c A o s H vs Q E hr h=>?_)
 ·obtain⟨n,rfl,k1,hn⟩:=h;refine⟨_,%[%[%[si,%[0|0],(@nQ _ _ (.int 4096) _ _ ∅ T.m_MOST_TOLD.choose_spec ⟨_,rfl⟩ ⋯),(au _)|14],%[(@cj _ _)|10],(@aq _)|17]|10],?_⟩;rw [show aw ["count"] [.int n]=[some (.int n)] from rfl];have aS:=k1 %[0|8];clear k1;ac_rfl
def Pt(x:Int):min 0 x=if x < 0 then x else 0:=by split<;>omega
def Pu(x:Int):max 0 x=if 0 < x then x else 0:=by split<;>omega
structure aE(C:Addr)(H:Hp)(v:Addr)(room first:Int)(axs:List (Int × Int)):Prop where
 ob:∃ dx l,H v=some (.ins C dx (fS room first l))/\aP H l (axL axs)
def aE.ext{C:Addr}{H H':Hp}{v:Addr}{room first:Int}{axs:List (Int × Int)}(h:aE C H v room first axs)(e:Ext H H'):aE C H' v room first axs:=by
 obtain⟨dx,l,h1,h2⟩:=h.ob;exact⟨⟨dx,l,e.at h1,h2.ext e⟩⟩
def Ge{m:Str}(h:m∈([("sizes":Str), "paces", "count", "cell", "cell_at", "cells", "least", "greatest"]:List Str)):¬ m = "axes" /\ ¬ m = "first" /\ ¬ m = "room":=by
 revert m
 decide +kernel
def vn(room first:Int)(l:Addr){m:Str}(h:m∈([("sizes":Str), "paces", "count", "cell", "cell_at", "cells", "least", "greatest"]:List Str)):(fS room first l).lookup m=none:=CD room first l (Ge h).1 (Ge h).2.1 (Ge h).2.2
def O5{H:Hp}{axs:List (Int × Int)}{ys:List V}(al:Al (bD H) (axL axs) ys){i:Nat}{y:V}(h:ys[i]? = some y):∃ a q,axs[i]? = some a/\y=.ref q/\H q=some (.tup [.int a.1,.int a.2]):=by
 obtain⟨z,hz,q,hq,aS⟩:=cu al h;unfold axL at hz;rw [getElem?_map] at hz;obtain⟨a,ha,rfl⟩:=Option.map_eq_some_iff.mp hz;exact⟨a,q,ha,hq,aS⟩
abbrev rg(C:Addr)(v:Addr)(H:Hp)(Q:VK)(E:XK):Prop:=∃ (room first:Int) (axs:List (Int × Int)),aE C H v room first axs/\fh axs/\∀ H',Ext H H'->Q (.int (first+aJ axs)) H'
def nN(C:Addr):Sp:=λ vs H Q E=>∃ (v:Addr),vs=[.ref v]/\(rg C v H Q E)
def BR(C:Addr)(v:Addr)(H:Hp)(Q:VK)(E:XK):nN C [.ref v] H Q E=(rg C v H Q E):=lX (f:=λ (v:Addr)=>[.ref v]) (λ _ _ h=>by cases h;exact rfl) v
def pw(T:Tx K mg t):bj P w K mg base CX0 1 t.a_Bp t.d_Bp ["self"] (nN t.a_Vm):=by
 refine T.F_Bp.ok rV (λ _ _ _ _ h=>lU h λ _=>rfl) (λ c A o s H vs Q E hr h=>?_)
 ·obtain⟨v,rfl,room,first,axs,vo,aS,k⟩:=h;obtain⟨dx,l,hv,ys,hl,al⟩:=vo.ob;have c1:=T.cl_View;have c2:=T.na_View_first;have c3:=T.na_View_axes
  have f1:=dJ room first l
  have f2:=cV room first l
  refine⟨_,%[%[%[bG,%[%[0|0],rfl|27],%[sum,(gd rfl),%[%[(["size", "pace", "self"]),(2),(aC (aa ek) ["self"] rfl rfl nofun),rfl,%[%[%[0|0],rfl|27]|18],(λ C s₀ H₀ ex pn=>(%[(2),rfl,%[%[(0),_,(show List.Nodup (["size", "pace", "self"]:List Str) from by decide +kernel),rfl,(Or.inl rfl),%[0|7]|15],%[%[(1),_,(show List.Nodup (["size", "pace", "self"]:List Str) from by decide +kernel),rfl,(Or.inl rfl),%[0|7]|15],(@aL _),∅|16],∅|16],∅,∅|26].mono λ _ _ _ _ h=>b0 h)),(λ C s₀ H₀ ex pn=>(@aI _)),(λ C s₀ H₀ ex pn=>%[min,(qN rfl),%[%[0|2],%[%[cP,%[eT,%[0|0],%[0|2]|11],%[1|0]|11]|1]|1]|6]),(by intros;rfl)|22]|1]|6]|11]|12]|10],?_⟩;rw [show aw ["self"] [.ref v]=[some (.ref v)] from rfl];ac_rfl;have wk:=dE (K:=K) (R:=axP) (λ _ _ _ _ h e=>h.ext e) hl (jH al);refine bc axs (λ _=>true) (λ a=>.int (min 0 ((a.1 - 1) * a.2))) axP wk.1 wk.2 (aj (by have:=aS.1;omega)) ?_ ?_
  ·intro D a x H' N1 N0 ha hD e ⟨q,hx,hq⟩ k1 _;subst hx;have hb:=aS.2 a ha;have a3:=k1 rfl H' (Ext.refl _);have a4:kd (a.1 - 1) a.2:=.inl ⟨by omega,by omega⟩;rw [Pt] at a3;clear k1 k;simp! only [↓dg,↓aO]
  ·intro D H' hD e aX;have a5:H' D=some (.lst ((axs.map λ a=>min 0 ((a.1 - 1) * a.2)).map V.int)):=by rw [aX,jc,Rq];rfl
   have k2:Q (.int (first+(axs.map λ a=>min 0 ((a.1 - 1) * a.2)).sum)) H':=k H' e;clear k aX;ac_rfl
abbrev jM(C:Addr)(v:Addr)(H:Hp)(Q:VK)(E:XK):Prop:=∃ (room first:Int) (axs:List (Int × Int)),aE C H v room first axs/\fh axs/\∀ H',Ext H H'->Q (.int (first+aG axs)) H'
def ji(C:Addr):Sp:=λ vs H Q E=>∃ (v:Addr),vs=[.ref v]/\(jM C v H Q E)
def rP(C:Addr)(v:Addr)(H:Hp)(Q:VK)(E:XK):ji C [.ref v] H Q E=(jM C v H Q E):=lX (f:=λ (v:Addr)=>[.ref v]) (λ _ _ h=>by cases h;exact rfl) v
def jR(T:Tx K mg t):bj P w K mg base CX0 1 t.a_wN t.d_wN ["self"] (ji t.a_Vm):=by
 refine T.F_wN.ok lR (λ _ _ _ _ h=>lU h λ _=>rfl) (λ c A o s H vs Q E hr h=>?_)
 ·obtain⟨v,rfl,room,first,axs,vo,aS,k⟩:=h;obtain⟨dx,l,hv,ys,hl,al⟩:=vo.ob;have c1:=T.cl_View;have c2:=T.na_View_first;have c3:=T.na_View_axes
  have f1:=dJ room first l
  have f2:=cV room first l
  refine⟨_,%[%[%[bG,%[%[0|0],rfl|27],%[sum,(gd rfl),%[%[(["size", "pace", "self"]),(2),(aC (aa cL) ["self"] rfl rfl nofun),rfl,%[%[%[0|0],rfl|27]|18],(λ C s₀ H₀ ex pn=>(%[(2),rfl,%[%[(0),_,(show List.Nodup (["size", "pace", "self"]:List Str) from by decide +kernel),rfl,(Or.inl rfl),%[0|7]|15],%[%[(1),_,(show List.Nodup (["size", "pace", "self"]:List Str) from by decide +kernel),rfl,(Or.inl rfl),%[0|7]|15],(@aL _),∅|16],∅|16],∅,∅|26].mono λ _ _ _ _ h=>b0 h)),(λ C s₀ H₀ ex pn=>(@aI _)),(λ C s₀ H₀ ex pn=>%[max,(iR rfl),%[%[0|2],%[%[cP,%[eT,%[0|0],%[0|2]|11],%[1|0]|11]|1]|1]|6]),(by intros;rfl)|22]|1]|6]|11]|12]|10],?_⟩;rw [show aw ["self"] [.ref v]=[some (.ref v)] from rfl];ac_rfl;have wk:=dE (K:=K) (R:=axP) (λ _ _ _ _ h e=>h.ext e) hl (jH al);refine bc axs (λ _=>true) (λ a=>.int (max 0 ((a.1 - 1) * a.2))) axP wk.1 wk.2 (aj (by have:=aS.1;omega)) ?_ ?_
  ·intro D a x H' N1 N0 ha hD e ⟨q,hx,hq⟩ k1 _;subst hx;have hb:=aS.2 a ha;have a3:=k1 rfl H' (Ext.refl _);have a4:kd (a.1 - 1) a.2:=.inl ⟨by omega,by omega⟩;rw [Pu] at a3;clear k1 k;simp! only [↓dg,↓aO]
  ·intro D H' hD e aX;have a5:H' D=some (.lst ((axs.map λ a=>max 0 ((a.1 - 1) * a.2)).map V.int)):=by rw [aX,jc,Rq];rfl
   have k2:Q (.int (first+(axs.map λ a=>max 0 ((a.1 - 1) * a.2)).sum)) H':=k H' e;clear k aX;ac_rfl
def Pw(H:Hp)(Q:VK)(f:Int × Int->Int)(axs:List (Int × Int)):Prop:=∀ (r:Addr) (H':Hp),H r=none->Ext H H'->H' r=some (.lst ((axs.map f).map V.int))->Q (.ref r) H'
abbrev nu(C:Addr)(v:Addr)(H:Hp)(Q:VK)(E:XK):Prop:=∃ (room first:Int) (axs:List (Int × Int)),aE C H v room first axs/\axs.length<=8/\Pw H Q (λ a=>a.1) axs
def om(C:Addr):Sp:=λ vs H Q E=>∃ (v:Addr),vs=[.ref v]/\(nu C v H Q E)
def cB(C:Addr)(v:Addr)(H:Hp)(Q:VK)(E:XK):om C [.ref v] H Q E=(nu C v H Q E):=lX (f:=λ (v:Addr)=>[.ref v]) (λ _ _ h=>by cases h;exact rfl) v
def bQ(T:Tx K mg t):bj P w K mg base CX0 1 t.a_Bk t.d_Bk ["self"] (om t.a_Vm):=by
 refine T.F_Bk.ok rS (λ _ _ _ _ h=>lU h λ _=>rfl) (λ c A o s H vs Q E hr h=>?_)
 ·obtain⟨v,rfl,room,first,axs,vo,aX,k⟩:=h;obtain⟨dx,l,hv,ys,hl,al⟩:=vo.ob;have c1:=T.cl_View;have c3:=T.na_View_axes
  have f2:=cV room first l
  refine⟨_,%[%[%[(["size", "pace", "self"]),(2),(aC (aa ef) ["self"] rfl rfl nofun),rfl,%[%[%[0|0],rfl|27]|18],(λ C s₀ H₀ ex pn=>(%[(2),rfl,%[%[(0),_,(show List.Nodup (["size", "pace", "self"]:List Str) from by decide +kernel),rfl,(Or.inl rfl),%[0|7]|15],%[%[(1),_,(show List.Nodup (["size", "pace", "self"]:List Str) from by decide +kernel),rfl,(Or.inl rfl),%[0|7]|15],(@aL _),∅|16],∅|16],∅,∅|26].mono λ _ _ _ _ h=>b0 h)),(λ C s₀ H₀ ex pn=>(@aI _)),(λ C s₀ H₀ ex pn=>%[0|0]),(by intros;rfl)|22]|12]|10],?_⟩;rw [show aw ["self"] [.ref v]=[some (.ref v)] from rfl];ac_rfl;have wk:=dE (K:=K) (R:=axP) (λ _ _ _ _ h e=>h.ext e) hl (jH al);refine bc axs (λ _=>true) (λ a=>.int a.1) axP wk.1 wk.2 (aj %[0|8]) ?_ ?_
  ·intro D a x H' N1 N0 ha hD e ⟨q,hx,hq⟩ k1 _;subst hx;have a3:=k1 rfl H' (Ext.refl _);clear k1 k;simp! only [↓dg,↓aO]
  ·intro D H' hD e aS;exact k D H' hD e (by rw [aS,jc,Rq];rfl)
abbrev nv(C:Addr)(v:Addr)(H:Hp)(Q:VK)(E:XK):Prop:=∃ (room first:Int) (axs:List (Int × Int)),aE C H v room first axs/\axs.length<=8/\Pw H Q (λ a=>a.2) axs
def oq(C:Addr):Sp:=λ vs H Q E=>∃ (v:Addr),vs=[.ref v]/\(nv C v H Q E)
def xj(C:Addr)(v:Addr)(H:Hp)(Q:VK)(E:XK):oq C [.ref v] H Q E=(nv C v H Q E):=lX (f:=λ (v:Addr)=>[.ref v]) (λ _ _ h=>by cases h;exact rfl) v
def pq(T:Tx K mg t):bj P w K mg base CX0 1 t.a_Bl t.d_Bl ["self"] (oq t.a_Vm):=by
 refine T.F_Bl.ok rT (λ _ _ _ _ h=>lU h λ _=>rfl) (λ c A o s H vs Q E hr h=>?_)
 ·obtain⟨v,rfl,room,first,axs,vo,aX,k⟩:=h;obtain⟨dx,l,hv,ys,hl,al⟩:=vo.ob;have c1:=T.cl_View;have c3:=T.na_View_axes
  have f2:=cV room first l
  refine⟨_,%[%[%[(["size", "pace", "self"]),(2),(aC (aa eh) ["self"] rfl rfl nofun),rfl,%[%[%[0|0],rfl|27]|18],(λ C s₀ H₀ ex pn=>(%[(2),rfl,%[%[(0),_,(show List.Nodup (["size", "pace", "self"]:List Str) from by decide +kernel),rfl,(Or.inl rfl),%[0|7]|15],%[%[(1),_,(show List.Nodup (["size", "pace", "self"]:List Str) from by decide +kernel),rfl,(Or.inl rfl),%[0|7]|15],(@aL _),∅|16],∅|16],∅,∅|26].mono λ _ _ _ _ h=>b0 h)),(λ C s₀ H₀ ex pn=>(@aI _)),(λ C s₀ H₀ ex pn=>%[1|0]),(by intros;rfl)|22]|12]|10],?_⟩;rw [show aw ["self"] [.ref v]=[some (.ref v)] from rfl];ac_rfl;have wk:=dE (K:=K) (R:=axP) (λ _ _ _ _ h e=>h.ext e) hl (jH al);refine bc axs (λ _=>true) (λ a=>.int a.2) axP wk.1 wk.2 (aj %[0|8]) ?_ ?_
  ·intro D a x H' N1 N0 ha hD e ⟨q,hx,hq⟩ k1 _;subst hx;have a3:=k1 rfl H' (Ext.refl _);clear k1 k;simp! only [↓dg,↓aO]
  ·intro D H' hD e aS;exact k D H' hD e (by rw [aS,jc,Rq];rfl)
abbrev ny(C:Addr)(v:Addr)(H:Hp)(Q:VK)(E:XK):Prop:=∃ (room first:Int) (axs:List (Int × Int)),aE C H v room first axs/\fh axs/\∀ H',Ext H H'->Q (.int (ae (axs.map λ a=>a.1))) H'
def ou(C:Addr):Sp:=λ vs H Q E=>∃ (v:Addr),vs=[.ref v]/\(ny C v H Q E)
def jw(C:Addr)(v:Addr)(H:Hp)(Q:VK)(E:XK):ou C [.ref v] H Q E=(ny C v H Q E):=lX (f:=λ (v:Addr)=>[.ref v]) (λ _ _ h=>by cases h;exact rfl) v
def fL(T:Tx K mg t):bj P w K mg base CX0 2 t.a_Bm t.d_Bm ["self"] (ou t.a_Vm):=by
 have G_Bk:=%[bQ|46];have G_Eh:=%[fA|46];refine T.F_Bm.ok rW (λ _ _ _ _ h=>lU h λ _=>rfl) (λ c A o s H vs Q E hr h=>?_)
 ·obtain⟨v,rfl,room,first,axs,vo,aS,k⟩:=h;obtain⟨dx,l,hv,_⟩:=vo.ob
  have f3:=vn room first l (m := "sizes") nofun
  refine⟨_,%[%[%[Eh,%[%[%[0|0],T.cl_View,T.mt_View_sizes,G_Bk,(hr.mono ⋯),T.b_Bk,.nil,aZ,∅|23]|1]|3]|12]|10],?_⟩;rw [show aw ["self"] [.ref v]=[some (.ref v)] from rfl];ac_rfl;rw [cB];refine⟨room,first,axs,vo,aS.1,λ r H' aX e h'=>?_⟩;have k':=k H' e;have hsz:=aS.sizes;clear k;simp! only [↓iU,↓pR,↓pS]
def sx(C:Addr):Sp:=λ vs H Q E=>∃ (x:Addr) (room:Int) (first:Int) (l:Addr),vs=[.ref x,.int room,.int first,.ref l]/\(∃ (dx:Addr) (axs:List (Int × Int)),H x=some (.ins C dx [])/\aP H l (axL axs)/\p6 room first axs/\∀ (H':Hp) (D:Addr),(∀ H0,Ext H0 H->H0 x=none->Ext H0 H')->H D=none->H' x=some (.ins C dx (fS room first D))->aP H' D (axL (axs.map aB))->Q .non H')
def iS(C:Addr)(x:Addr)(room:Int)(first:Int)(l:Addr)(H:Hp)(Q:VK)(E:XK):sx C [.ref x,.int room,.int first,.ref l] H Q E=(∃ (dx:Addr) (axs:List (Int × Int)),H x=some (.ins C dx [])/\aP H l (axL axs)/\p6 room first axs/\∀ (H':Hp) (D:Addr),(∀ H0,Ext H0 H->H0 x=none->Ext H0 H')->H D=none->H' x=some (.ins C dx (fS room first D))->aP H' D (axL (axs.map aB))->Q .non H'):=M3 (f:=λ (x:Addr) (room:Int) (first:Int) (l:Addr)=>[.ref x,.int room,.int first,.ref l]) (λ _ _ _ _ _ _ _ _ h=>by cases h;exact⟨rfl,rfl,rfl,rfl⟩) x room first l
def dn(T:Tx K mg t):bj P w K mg base CX0 6 t.a_wM t.d_wM ["self", "room", "first", "axes"] (sx t.a_Vm):=by
 have G_D0:=%[jJ|46];have G_Eg:=%[dN|46];have G_IV:=%[tL|46];have G_D4:=%[rB|46];have G_Bp:=%[pw|46];have G_wN:=%[jR|46];refine T.F_wM.ok lS (λ _ _ _ _ h=>M4 h λ _ _ _ _=>rfl) (λ c A o s H vs Q E hr h=>?_)
 ·obtain⟨x,room,first,l,rfl,dx,axs,hx,tl,aS,k⟩:=h;have c1:=T.cl_View;have c2:=T.na_View_first;have c3:=T.na_View_axes;have c4:=T.na_View_room;refine⟨_,%[%[(PW.pt %[%[%[%[D0,%[%[1|0],%[%[0|2],%[(@nQ _ _ (.int 1000000000000000000) _ _ ∅ T.m_MOST_ROOM.choose_spec ⟨_,rfl⟩ ⋯)|1]|1]|1]|3],(by intros;rfl)|25]|24],%[%[%[%[Eg,%[%[2|0]|1]|3],(by intros;rfl)|25]|24],%[%[%[%[IV,%[%[3|0]|1]|3],(by intros;rfl)|25]|24]|34]|29]|29]),%[(@cj _ _)|10],(@aq _)|17],%[(@jX _ _ _ _ _ _ _ _ %[0|0] %[1|0] rfl),%[(@jX _ _ _ _ _ _ _ _ %[0|0] %[2|0] rfl),%[(@jX _ _ _ _ _ _ _ _ %[0|0] %[(["axis", "self", "room", "first", "axes"]),(1),(aC (aa cM) ["self", "room", "first", "axes"] rfl rfl nofun),rfl,%[%[3|0]|18],(λ C s₀ H₀ ex pn=>%[(0),_,(show List.Nodup (["axis", "self", "room", "first", "axes"]:List Str) from by decide +kernel),rfl,(Or.inl rfl),%[0|7]|15]),(λ C s₀ H₀ ex pn=>(@aI _)),(λ C s₀ H₀ ex pn=>%[D4,%[%[0|0]|1]|3]),(by intros;rfl)|22] rfl),%[%[(PW.pt %[%[vN,%[%[0|0],T.cl_View,T.mt_View_least,G_Bp,(hr.mono ⋯),T.b_Bp,.nil,aZ,∅|23],%[0|2],(au _)|14],%[%[Kl,%[%[0|0],T.cl_View,T.mt_View_greatest,G_wN,(hr.mono ⋯),T.b_wN,.nil,aZ,∅|23],%[1|0],(au _)|14]|34]|29]),%[(@cj _ _)|10],(@aq _)|17]|10]|9]|9]|9]|9],?_⟩;rw [show aw ["self", "room", "first", "axes"] [.ref x,.int room,.int first,.ref l]=[some (.ref x),some (.int room),some (.int first),some (.ref l)] from rfl];have r1:=aS.r1;have r2:=aS.r2;simp! only [↓m9,↓bq];rw [EY];refine⟨axs,tl,aS.ax,λ H1 e1=>?_⟩;have a3:=e1.at hx;have b6:=tl.ext e1;clear hx tl;ac_rfl;refine⟨(show (1:Nat) < 1000 by decide),?_⟩;obtain⟨ys,aX,a8⟩:=b6;have b7:l ≠ x:=λ z=>by rw [z,a3] at aX;cases aX
  have a4:(upd H1 x (HO.ins t.a_Vm dx (fU "first" (V.int first) (fU "room" (V.int room) [])))) x=some (HO.ins t.a_Vm dx (fU "first" (V.int first) (fU "room" (V.int room) []))):=ar
  have a9:(upd H1 x (HO.ins t.a_Vm dx (fU "first" (V.int first) (fU "room" (V.int room) [])))) l=some (.lst ys):=by rw [ah b7];exact aX
  have bt:Al (λ a y=>axP a y (upd H1 x (HO.ins t.a_Vm dx (fU "first" (V.int first) (fU "room" (V.int room) []))))) axs ys:=(jH a8).imp λ a y ⟨q,hy,hq⟩=>⟨q,hy,by rw [ah (λ z=>by rw [z,a3] at hq;cases hq)];exact hq⟩;have b2:∀ H0,Ext H0 H->H0 x=none->Ext H0 (upd H1 x (HO.ins t.a_Vm dx (fU "first" (V.int first) (fU "room" (V.int room) [])))):=λ H0 q0 q1=>(q0.trans e1).put q1
  have b3:∀ b,b ≠ x->(upd H1 x (HO.ins t.a_Vm dx (fU "first" (V.int first) (fU "room" (V.int room) [])))) b=none->H b=none:=λ b hb q=>by rw [ah hb] at q;exact e1.free q
  generalize upd H1 x (HO.ins t.a_Vm dx (fU "first" (V.int first) (fU "room" (V.int room) [])))=H2 at a4 a9 bt b2 b3;clear aX a8 a3;ac_rfl;have wk:=dE (K:=K) (R:=axP) (λ _ _ _ _ h e=>h.ext e) a9 bt;refine iJ axs (λ _=>true) axP (λ D a y H'=>∃ q,y=.ref q/\q ≠ D/\H' q=some (.tup [.int (aB a).1,.int (aB a).2])) wk.1 wk.2 (λ D _ y H1 H2 ⟨q,h1,h2,h3⟩ e=>⟨q,h1,h2,e.at h3⟩) (λ D _ y H1 o ⟨q,h1,h2,h3⟩=>⟨q,h1,h2,by rw [ah h2];exact h3⟩) (aj (by have:=aS.ax.1;omega)) ?_ ?_
  ·intro D a y H' N1 N0 ha hD e ⟨c6,bS⟩ ⟨q,hy,hq⟩ k1 _;subst hy;have cf:=k1 rfl;clear k1 k;simp! only [↓aV,↓aO];rw [EW];exact⟨a,hq,λ r cm b1 e' h'=>cf _ cm e' ⟨r,rfl,(λ z=>by rw [z,bS] at b1;cases b1),h'⟩⟩
  ·intro D zs H3 hD e3 cS a5;rw [jc] at a5;have cT:=e3.at a4;have b5:D ≠ x:=λ z=>by rw [z,a4] at hD;cases hD
   clear wk;ac_rfl;refine⟨(show (2:Nat) < 1000 by decide),?_⟩
   have tt:aP (upd H3 x (HO.ins t.a_Vm dx (fS room first D))) D (axL (axs.map aB)):=by
    refine⟨zs,by rw [ah b5];exact cS,?_,λ i z y hz hy=>?_⟩
    ·rw [a5.1];unfold axL;rw [length_map,length_map]
    ·unfold axL at hz;rw [map_map,getElem?_map] at hz;obtain⟨a,ha,rfl⟩:=Option.map_eq_some_iff.mp hz;obtain⟨q,c0,_,a6⟩:=a5.2 i a y ha hy;exact⟨q,c0,by rw [ah (λ z=>by rw [z,cT] at a6;cases a6)];exact a6⟩
   have b4:∀ H0,Ext H0 H->H0 x=none->Ext H0 (upd H3 x (HO.ins t.a_Vm dx (fS room first D))):=λ H0 q0 q1=>((b2 H0 q0 q1).trans e3).put q1;have a7:(upd H3 x (HO.ins t.a_Vm dx (fS room first D))) x=some (HO.ins t.a_Vm dx (fS room first D)):=ar
   have f1:=vn room first D (m := "least") nofun
   have f2:=vn room first D (m := "greatest") nofun
   refine⟨f1,?_⟩
   show nN t.a_Vm [V.ref x] (upd H3 x (HO.ins t.a_Vm dx (fS room first D))) _ _
   generalize upd H3 x (HO.ins t.a_Vm dx (fS room first D))=H4 at tt b4 a7
   have vo:aE t.a_Vm H4 x room first (axs.map aB):=⟨dx,D,a7,tt⟩
   rw [BR];refine⟨room,first,axs.map aB,vo,aS.ax.kept,λ H5 e5=>?_⟩
   have c7:¬ first+aJ (axs.map aB) < 0:=by have:=aS.lo;omega
   have c5:=e5.at a7;ac_rfl;rw [rP];refine⟨room,first,axs.map aB,vo.ext e5,aS.ax.kept,λ H6 e6=>?_⟩
   have c8:¬ room<=first+aG (axs.map aB):=by have:=aS.hi;omega
   have k':=k H6 D (λ H0 q0 q1=>((b4 H0 q0 q1).trans e5).trans e6) (b3 D b5 hD) (e6.at c5) ((tt.ext e5).ext e6);clear k;ac_rfl
def mL(cs:List Int)(a:Int × Int)(i:Nat)(c:Int)(h:cs[i]? = some c):bw (cs.take (i+1)) a=bw (cs.take i) a++(List.range a.1.toNat).map λ (n:Nat)=>c+(n:Int) * a.2:=by
 unfold bw;rw [take_add_one,h,List.flatMap_append];simp
abbrev lG  (p:Addr) (z:Int) (pc:Int) (H:Hp) (Q:VK) (E:XK):Prop:=∃ cs:List Int,H p=some (.lst (cs.map V.int))/\1<=z/\cs.length * z.toNat<=4096/\z<=1000000000/\∀ (r:Addr) (H':Hp),H r=none->Ext H H'->H' r=some (.lst ((bw cs (z,pc)).map V.int))->Q (.ref r) H'
def kD  : Sp:=λ vs H Q E=>∃ (p:Addr) (z:Int) (pc:Int),vs=[.ref p,.int z,.int pc]/\(lG  p z pc H Q E)
def ue  (p:Addr) (z:Int) (pc:Int) (H:Hp) (Q:VK) (E:XK):kD  [.ref p,.int z,.int pc] H Q E=(lG  p z pc H Q E):=B2 (f:=λ (p:Addr) (z:Int) (pc:Int)=>[.ref p,.int z,.int pc]) (λ _ _ _ _ _ _ h=>by cases h;exact⟨rfl,rfl,rfl⟩) p z pc
def wg(T:Tx K mg t):bj P w K mg base CX0 1 t.a_Jb t.d_Jb ["cells", "size", "pace"] kD:=by
 refine T.F_Jb.ok kZ (λ _ _ _ _ h=>B3 h λ _ _ _=>rfl) (λ c A o s H vs Q E hr h=>?_)
 ·obtain⟨p,z,pc,rfl,cs,hp,hz,a5,a6,k⟩:=h;refine⟨_,%[%[3,kZ,%[(@cx _)|20]|4],%[%[QT,rfl,%[%[0|0]|18],%[(4),_,kZ.nd,rfl,(Or.inr rfl),%[0|7]|15],%[%[%[Q3,S7,S6,iO,%[3|0],%[%[(["number", "cells", "size", "pace", "found", "cell"]),(1),(aC (aa iL) ["cells", "size", "pace", "found", "cell"] rfl rfl nofun),rfl,%[∅,T.z_range,%[%[1|0]|1],∅|35],(λ C s₀ H₀ ex pn=>%[(0),_,(show List.Nodup (["number", "cells", "size", "pace", "found", "cell"]:List Str) from by decide +kernel),rfl,(Or.inl rfl),%[0|7]|15]),(λ C s₀ H₀ ex pn=>(@aI _)),(λ C s₀ H₀ ex pn=>%[bG,%[5|0],%[cP,%[0|0],%[3|0]|11]|11]),(by intros;rfl)|22]|1],∅,∅,∅,∅,∅|33],∅|19]|10],(by intros;rfl)|21],%[%[%[3|0]|12]|10]|9]|9],?_⟩;rw [show aw ["cells", "size", "pace", "found", "cell"] [.ref p,.int z,.int pc]=[some (.ref p),some (.int z),some (.int pc),none,none] from rfl];ac_rfl;intro r H1 aS e1 h1;have a7:=e1.at hp;ac_rfl;refine cG (xs:=cs.map V.int) (λ i σ H'=>∃ v4:Option V,σ=[some (.ref p),some (.int z),some (.int pc),some (.ref r),v4]/\Ext H H'/\H' r=some (.lst ((bw (cs.take i) (z,pc)).map V.int))) ⟨none,rfl,e1,h1⟩ (λ i σ H' _ ⟨_,_,e,_⟩=>e.at hp) ?_ ?_
  ·rintro i x _ H2 hi ⟨v4,rfl,e2,h2⟩;rw [QL] at hi;obtain⟨c,hc,rfl⟩:=QJ.mp hi;have a8:i < cs.length:=(QD.mp hc).1
   have a9:z.toNat<=4096:=by
    have:=TB z.toNat (show 1<=cs.length by omega);omega
   have bt:(bw (cs.take i) (z,pc)).length+z.toNat<=4096:=by
    rw [kB,Rf,show ((z,pc):Int × Int).1=z from rfl];have:(min i cs.length+1) * z.toNat<=cs.length * z.toNat:=TB _ %[0|8];rw [Nat.add_mul,Nat.one_mul] at this;omega
   simp! only [↓aA];refine⟨by omega,by omega,?_⟩;refine bc (List.range z.toNat) (λ _=>true) (λ j=>.int (c+(j:Int) * pc)) (λ j x H'=>x=.int (0+(j:Nat))) fM.1 fM.2 (aj (by rw [Rb];omega)) ?_ ?_
   ·intro D j x H' N1 N0 hj hD e hx k1 _;subst hx;have bS:=Rj.mp hj;have b1:=k1 rfl H' (Ext.refl _);have b2:kd (j:Int) pc:=.inl %[0|8];have e0:(0:Int)+(j:Int)=(j:Int):=Rv _;clear k1 k hj;simp! only [↓aV,↓aO]
   ·intro D H3 hD e3 aX;have a3:H3 D=some (.lst (((List.range z.toNat).map λ (j:Nat)=>c+(j:Int) * pc).map V.int)):=by rw [aX,jc,Rq];rfl
    have a4:=e3.at h2;have hle:(bw (cs.take i) (z,pc)).length+(List.range z.toNat).length<=sizeLine:=aj (by rw [Rb];omega);clear aX hi;ac_rfl;refine⟨_,rfl,(e2.trans e3).put aS,?_⟩;rw [mL cs (z,pc) i c hc,RA]
  ·rintro _ H2 ⟨v4,rfl,e2,h2⟩;ac_rfl;rw [QE,Rz] at h2;exact k r H2 aS e2 h2
abbrev rl(C cT:Addr)(v:Addr)(H:Hp)(Q:VK)(E:XK):Prop:=∃ (room first:Int) (axs:List (Int × Int)),aE C H v room first axs/\fh axs/\(ae (axs.map λ a=>a.1)<=4096->∀ (r:Addr) (H':Hp),H r=none->Ext H H'->H' r=some (.lst ((af first axs).map V.int))->Q (.ref r) H')/\¬ 4096 < ae (axs.map λ a=>a.1)
def sL(C cT:Addr):Sp:=λ vs H Q E=>∃ (v:Addr),vs=[.ref v]/\(rl C cT v H Q E)
def dI(C cT:Addr)(v:Addr)(H:Hp)(Q:VK)(E:XK):sL C cT [.ref v] H Q E=(rl C cT v H Q E):=lX (f:=λ (v:Addr)=>[.ref v]) (λ _ _ h=>by cases h;exact rfl) v
def bR(T:Tx K mg t):bj P w K mg base CX0 4 t.a_Bo t.d_Bo ["self"] (sL t.a_Vm t.a_Ve):=by
 have G_Bm:=%[fL|46];have G_Bd:=%[eN|46];have G_Jb:=%[wg|46];refine T.F_Bo.ok dc (λ _ _ _ _ h=>lU h λ _=>rfl) (λ c A o s H vs Q E hr h=>?_)
 ·obtain⟨v,rfl,room,first,axs,vo,aX,kQ,kE⟩:=h;obtain⟨dx,l,hv,ys,hl,al⟩:=vo.ob;have c1:=T.cl_View;have c2:=T.na_View_first;have c3:=T.na_View_axes
  have f1:=dJ room first l
  have f2:=cV room first l
  have f3:=vn room first l (m := "count") nofun
  refine⟨_,%[%[%[Bd,%[%[%[0|0],T.cl_View,T.mt_View_count,G_Bm,(hr.mono ⋯),T.b_Bm,.nil,aZ,∅|23]|1]|3],∅|19],%[%[1,dc,%[%[%[%[0|0],rfl|27]|1]|20]|4],%[%[QT,rfl,%[%[%[0|0],rfl|27]|18],(%[(2),rfl,%[%[2,dc|5],%[%[3,dc|5],(@aL _),∅|16],∅|16],∅,∅|26].mono λ _ _ _ _ h=>b0 h),%[%[1,dc,%[Jb,%[%[1|0],%[%[2|0],%[%[3|0]|1]|1]|1]|3]|4]|10],(by intros;rfl)|21],%[%[%[1|0]|12]|10]|9]|9]|9],?_⟩;rw [show aw ["self", "found", "size", "pace"] [.ref v]=[some (.ref v),none,none,none] from rfl];clear G_Bm G_Bd G_Jb;ac_rfl;rw [jw];refine⟨room,first,axs,vo,aX,λ H1 e1=>?_⟩;have a4:=e1.at hv;have a5:=e1.at hl;ac_rfl;rw [oT];refine⟨λ hc=>?_,kE⟩;have a6:=kQ hc;clear kQ kE;ac_rfl;intro r H2 a7 e2 h2;have b1:=e2.at a4;have b2:=e2.at a5;ac_rfl;have aS:∀ a∈axs,(1:Int)<=a.1:=λ a ha=>(aX.2 a ha).1;refine cG (xs:=ys) (λ i σ H'=>∃ (r:Addr) (v2 v3:Option V),σ=[some (.ref v),some (.ref r),v2,v3]/\Ext H H'/\H r=none/\H' r=some (.lst ((af first (axs.take i)).map V.int))) ⟨r,none,none,rfl,e1.trans e2,e1.free a7,h2⟩ (λ i σ H' _ ⟨_,_,_,_,e,_,_⟩=>e.at hl) ?_ ?_
  ·rintro i y _ H3 hi ⟨r3,v2,v3,rfl,e3,a3,h3⟩;obtain⟨a,q,ha,rfl,hq⟩:=O5 al hi;have b3:=e3.at hq;have hm:=aX.2 a (QV ha);simp! only [↓aA];rw [ue];refine⟨_,h3,hm.1,?_,hm.2,λ r4 H4 a8 e4 h4=>?_⟩
   ·have a9:=aF first (axs.take i) λ b hb=>aS b (RM hb)
    have hp:=fK (axs.map λ a=>a.1) (λ n hn=>by obtain⟨b,hb,rfl⟩:=QG.mp hn;exact aS b hb) (i+1);rw [jq _ i a.1 (by rw [QL,ha];rfl),←UC,←a9] at hp;have bt:((a.1.toNat:Nat):Int)=a.1:=RC %[0|8]
    have:(((af first (axs.take i)).length * a.1.toNat:Nat):Int)<=4096:=by rw [TL,bt];omega
    omega
   ·ac_rfl;refine⟨r4,_,_,rfl,e3.trans e4,e3.free a8,?_⟩;rw [h4,RD,ha]
    show _=some (HO.lst (List.map V.int (af first (axs.take i++[a]))))
    rw [lE]
  ·rintro _ H3 ⟨r3,v2,v3,rfl,e3,a3,h3⟩;have bS:ys.length=axs.length:=by rw [al.1];unfold axL;rw [length_map]
   rw [bS,Rz] at h3;ac_rfl;exact a6 r3 H3 a3 e3 h3
abbrev vG(C:Addr)(v:Addr)(q:Addr)(H:Hp)(Q:VK)(E:XK):Prop:=∃ (room first:Int) (axs:List (Int × Int)) (ys:List Int),aE C H v room first axs/\fh axs/\H q=some (.tup (ys.map V.int))/\InR (axs.map λ a=>a.1) ys/\∀ H',Ext H H'->Q (.int (first+eQ ys (axs.map λ a=>a.2))) H'
def xY(C:Addr):Sp:=λ vs H Q E=>∃ (v:Addr) (q:Addr),vs=[.ref v,.ref q]/\(vG C v q H Q E)
def vh(C:Addr)(v:Addr)(q:Addr)(H:Hp)(Q:VK)(E:XK):xY C [.ref v,.ref q] H Q E=(vG C v q H Q E):=gN (f:=λ (v:Addr) (q:Addr)=>[.ref v,.ref q]) (λ _ _ _ _ h=>by cases h;exact⟨rfl,rfl⟩) v q
def rG(T:Tx K mg t):bj P w K mg base CX0 4 t.a_D8 t.d_D8 ["self", "place"] (xY t.a_Vm):=by
 have G_Ej:=%[tJ|46];have G_Bk:=%[bQ|46];have G_Bl:=%[pq|46];refine T.F_D8.ok uo (λ _ _ _ _ h=>gO h λ _ _=>rfl) (λ c A o s H vs Q E hr h=>?_)
 ·obtain⟨v,q,rfl,room,first,axs,ys,vo,aS,hq,hy,aX⟩:=h;obtain⟨dx,l,hv,_⟩:=vo.ob;have c1:=T.cl_View;have c2:=T.na_View_first
  have f1:=dJ room first l
  have f3:=vn room first l (m := "sizes") nofun
  have f4:=vn room first l (m := "paces") nofun
  refine⟨_,%[%[%[%[%[Ej,%[%[%[0|0],T.cl_View,T.mt_View_sizes,G_Bk,(hr.mono ⋯),T.b_Bk,.nil,aZ,∅|23],%[%[1|0]|1]|1]|3],(by intros;rfl)|25]|24],%[(@cj _ _)|10],(@aq _)|17],%[%[%[bG,%[%[0|0],rfl|27],%[sum,(gd rfl),%[%[(["number", "pace", "self", "place"]),(2),(aC (aa fz) ["self", "place"] rfl rfl nofun),rfl,%[∅,T.z_zip,%[%[1|0],%[%[%[0|0],T.cl_View,T.mt_View_paces,G_Bl,(hr.mono ⋯),T.b_Bl,.nil,aZ,∅|23]|1]|1],∅,∅|41],(λ C s₀ H₀ ex pn=>(%[(2),rfl,%[%[(0),_,(show List.Nodup (["number", "pace", "self", "place"]:List Str) from by decide +kernel),rfl,(Or.inl rfl),%[0|7]|15],%[%[(1),_,(show List.Nodup (["number", "pace", "self", "place"]:List Str) from by decide +kernel),rfl,(Or.inl rfl),%[0|7]|15],(@aL _),∅|16],∅|16],∅,∅|26].mono λ _ _ _ _ h=>b0 h)),(λ C s₀ H₀ ex pn=>(@aI _)),(λ C s₀ H₀ ex pn=>%[cP,%[0|0],%[1|0]|11]),(by intros;rfl)|22]|1]|6]|11]|12]|10]|9],?_⟩;rw [show aw ["self", "place"] [.ref v,.ref q]=[some (.ref v),some (.ref q)] from rfl];clear G_Ej G_Bk G_Bl;have hsz:=aS.sizes;ac_rfl;rw [cB];refine⟨room,first,axs,vo,aS.1,λ r H1 a9 e1 h1=>?_⟩;have a5:=e1.at hv;have bt:=rp (e1.at hq);have bS:pW (axs.map λ a=>a.1) (.ref q) H1=true:=Aj (e1.at hq) hy;have a6:=e1.at hq;clear hq;simp! only [↓uf,↓pR,↓N8];intro H2 e2;have a7:=e2.at a5;have a8:=e2.at a6;ac_rfl;rw [xj];refine⟨room,first,axs,vo.ext (e1.trans e2),aS.1,λ r3 H3 b1 e3 h3=>?_⟩;have a3:=e3.at a8;ac_rfl;have b2:=hy.len;have h8:=aS.1;refine bc ((ys.map V.int).zip ((axs.map λ a=>a.2).map V.int)) (λ _=>true) (λ z=>.int (vi z.1 * vi z.2)) E2 (jF (ka:=true) (kb:=false) a3 h3).1 (jF (ka:=true) (kb:=false) a3 h3).2 (aj (by rw [Sy,QE,QE,QE];omega)) ?_ ?_
  ·intro D z y H' N1 N0 hz hD e ⟨u,hu,b3⟩ k1 _;subst hu;obtain⟨x0,n0⟩:=z;have hm:=SF hz;obtain⟨a,ha,rfl⟩:=QG.mp hm.1;obtain⟨b,b4,rfl⟩:=QG.mp hm.2;have b5:N1 (.int (a * b)) H':=k1 rfl H' (Ext.refl _);have ca:=hy.bound hsz a ha;have b6:kd a b:=.inl ⟨by omega,by omega⟩;clear k1 hm hz aX;simp! only [↓dg,↓aO]
  ·intro D H' hD e a4
   have b7:H' D=some (.lst ((List.zipWith (λ x p=>x * p) ys (axs.map λ a=>a.2)).map V.int)):=by
    rw [a4,Fo]
   have k2:Q (.int (first+(List.zipWith (λ x p=>x * p) ys (axs.map λ a=>a.2)).sum)) H':=aX H' (e1.trans (e2.trans (e3.trans e)));have cf:=(e3.trans e).at a7;clear aX a4;ac_rfl
def mC(l:Addr):List (Str × V):=fU "floor" (V.ref l) []
def dY(l:Addr):(mC l).lookup ("floor":Str)=some (.ref l):=by
 unfold mC;rw [aK,if_pos rfl]
def bJ(l:Addr){m:Str}(h:m∈([("all_values":Str), "refuse_room", "read", "put", "copied", "fill"]:List Str)):(mC l).lookup m=none:=by
 have:¬ m = "floor":=by
  revert m
  decide +kernel
 unfold mC;rw [aK,if_neg this];rfl
structure cU(C:Addr)(H:Hp)(s l:Addr)(vals:List Int):Prop where
 ob:∃ dx,H s=some (.ins C dx (mC l))
 fl:H l=some (.lst (vals.map V.int))
def cU.ext{C:Addr}{H H':Hp}{s l:Addr}{vals:List Int}(h:cU C H s l vals)(e:Ext H H'):cU C H' s l vals:=by
 obtain⟨dx,h1⟩:=h.ob;exact⟨⟨dx,e.at h1⟩,e.at h.fl⟩
abbrev qX(C:Addr)(x:Addr)(p:Addr)(H:Hp)(Q:VK)(E:XK):Prop:=∃ (dx:Addr) (vals:List Int),H x=some (.ins C dx [])/\H p=some (.lst (vals.map V.int))/\1<=vals.length/\vals.length<=4096/\∀ (H':Hp) (l:Addr),(∀ H0,Ext H0 H->H0 x=none->Ext H0 H')->H l=none->H' x=some (.ins C dx (mC l))->H' l=some (.lst (vals.map V.int))->Q .non H'
def sC(C:Addr):Sp:=λ vs H Q E=>∃ (x:Addr) (p:Addr),vs=[.ref x,.ref p]/\(qX C x p H Q E)
def qQ(C:Addr)(x:Addr)(p:Addr)(H:Hp)(Q:VK)(E:XK):sC C [.ref x,.ref p] H Q E=(qX C x p H Q E):=gN (f:=λ (x:Addr) (p:Addr)=>[.ref x,.ref p]) (λ _ _ _ _ h=>by cases h;exact⟨rfl,rfl⟩) x p
def jC(T:Tx K mg t):bj P w K mg base CX0 4 t.a_wL t.d_wL ["self", "values"] (sC t.a_Vl):=by
 have G_Bd:=%[eN|46];refine T.F_wL.ok jS (λ _ _ _ _ h=>gO h λ _ _=>rfl) (λ c A o s H vs Q E hr h=>?_)
 ·obtain⟨x,p,rfl,dx,vals,hx,hp,aX,a3,k⟩:=h;have c1:=T.cl_Store;have c2:=T.na_Store_floor;refine⟨_,%[%[%[(cy hr.units),%[len,ak,%[%[1|0]|1]|6],%[0|2],(au _)|14],%[(@cj _ _)|10],(@aq _)|17],%[%[%[Bd,%[%[len,ak,%[%[1|0]|1]|6]|1]|3],∅|19],%[(@jX _ _ _ _ _ _ _ _ %[0|0] %[gL,∅,T.z_list,nofun,%[%[1|0]|1],⋯,⋯,∅,∅|42] rfl)|10]|9]|9],?_⟩;rw [show aw ["self", "values"] [.ref x,.ref p]=[some (.ref x),some (.ref p)] from rfl];clear G_Bd;have a4:¬ ((vals.length:Int)=0):=by omega
  ac_rfl;rw [oT];refine⟨λ _=>?_,λ h=>absurd h %[0|8]⟩;ac_rfl;intro l H1 hl e1 h1;have a5:=e1.at hx;have aS:l ≠ x:=λ z=>by rw [z,hx] at hl;cases hl
  ac_rfl;exact k _ l (λ H0 q0 q1=>(q0.trans e1).put q1) hl ar (by rw [ah aS];exact h1)
abbrev vK(C:Addr)(s:Addr)(H:Hp)(Q:VK)(E:XK):Prop:=∃ (l:Addr) (vals:List Int),cU C H s l vals/\vals.length<=4096/\∀ (r:Addr) (H':Hp),H r=none->Ext H H'->H' r=some (.lst (vals.map V.int))->Q (.ref r) H'
def ya(C:Addr):Sp:=λ vs H Q E=>∃ (s:Addr),vs=[.ref s]/\(vK C s H Q E)
def oU(C:Addr)(s:Addr)(H:Hp)(Q:VK)(E:XK):ya C [.ref s] H Q E=(vK C s H Q E):=lX (f:=λ (s:Addr)=>[.ref s]) (λ _ _ h=>by cases h;exact rfl) s
def dO(T:Tx K mg t):bj P w K mg base CX0 1 t.a_t5 t.d_t5 ["self"] (ya t.a_Vl):=by
 refine T.F_t5.ok i8 (λ _ _ _ _ h=>lU h λ _=>rfl) (λ c A o s' H vs Q E hr h=>?_)
 ·obtain⟨s,rfl,l,vals,so,aX,k⟩:=h;obtain⟨dx,hs⟩:=so.ob;have a3:=so.fl;have c1:=T.cl_Store;have c2:=T.na_Store_floor;have f1:=dY l;refine⟨_,%[%[%[gL,∅,T.z_list,nofun,%[%[%[0|0],rfl|27]|1],⋯,⋯,∅,∅|42]|12]|10],?_⟩;rw [show aw ["self"] [.ref s]=[some (.ref s)] from rfl];ac_rfl;intro r H1 aS e1 h1;exact k r H1 aS e1 h1
abbrev vp(CS CV:Addr)(s:Addr)(v:Addr)(H:Hp)(Q:VK)(E:XK):Prop:=∃ (l:Addr) (vals:List Int) (room first:Int) (axs:List (Int × Int)),cU CS H s l vals/\aE CV H v room first axs/\room=vals.length/\Q .non H
def xK(CS CV:Addr):Sp:=λ vs H Q E=>∃ (s:Addr) (v:Addr),vs=[.ref s,.ref v]/\(vp CS CV s v H Q E)
def gz(CS CV:Addr)(s:Addr)(v:Addr)(H:Hp)(Q:VK)(E:XK):xK CS CV [.ref s,.ref v] H Q E=(vp CS CV s v H Q E):=gN (f:=λ (s:Addr) (v:Addr)=>[.ref s,.ref v]) (λ _ _ _ _ h=>by cases h;exact⟨rfl,rfl⟩) s v
def bo(T:Tx K mg t):bj P w K mg base CX0 1 t.a_tY t.d_tY ["self", "view"] (xK t.a_Vl t.a_Vm):=by
 refine T.F_tY.ok iA (λ _ _ _ _ h=>gO h λ _ _=>rfl) (λ c A o s' H vs Q E hr h=>?_)
 ·obtain⟨s,v,rfl,l,vals,room,first,axs,so,vo,aS,k⟩:=h;obtain⟨dx,hs⟩:=so.ob;obtain⟨dy,D,hv,_⟩:=vo.ob;have aX:=so.fl;have c1:=T.cl_Store;have c2:=T.na_Store_floor;have c3:=T.cl_View;have c4:=T.na_View_room;have f1:=dY l
  have f2:=fb room first D
  refine⟨_,%[%[%[(c9 hr.units),%[%[1|0],rfl|27],%[len,ak,%[%[%[0|0],rfl|27]|1]|6],(au _)|14],%[(@cj _ _)|10],(@aq _)|17]|10],?_⟩;rw [show aw ["self", "view"] [.ref s,.ref v]=[some (.ref s),some (.ref v)] from rfl];subst aS;ac_rfl
abbrev nA(CV:Addr)(v:Addr)(n:Int)(H:Hp)(Q:VK)(E:XK):Prop:=∃ (room first:Int) (axs:List (Int × Int)),aE CV H v room first axs/\fh axs/\n=ae (axs.map λ a=>a.1)/\∀ H',Ext H H'->Q .non H'
def oy(CV:Addr):Sp:=λ vs H Q E=>∃ (v:Addr) (n:Int),vs=[.ref v,.int n]/\(nA CV v n H Q E)
def ng(CV:Addr)(v:Addr)(n:Int)(H:Hp)(Q:VK)(E:XK):oy CV [.ref v,.int n] H Q E=(nA CV v n H Q E):=gN (f:=λ (v:Addr) (n:Int)=>[.ref v,.int n]) (λ _ _ _ _ h=>by cases h;exact⟨rfl,rfl⟩) v n
def gr(T:Tx K mg t):bj P w K mg base CX0 3 t.a_wY t.d_wY ["view", "many"] (oy t.a_Vm):=by
 have G_Bm:=%[fL|46];refine T.F_wY.ok mw (λ _ _ _ _ h=>gO h λ _ _=>rfl) (λ c A o s' H vs Q E hr h=>?_)
 ·obtain⟨v,n,rfl,room,first,axs,vo,aS,hn,k⟩:=h;obtain⟨dy,D,hv,_⟩:=vo.ob
  have f3:=vn room first D (m := "count") nofun
  have c3:=T.cl_View;refine⟨_,%[%[%[(c9 hr.units),%[%[0|0],T.cl_View,T.mt_View_count,G_Bm,(hr.mono ⋯),T.b_Bm,.nil,aZ,∅|23],%[1|0],(au _)|14],%[(@cj _ _)|10],(@aq _)|17]|10],?_⟩;rw [show aw ["view", "many"] [.ref v,.int n]=[some (.ref v),some (.int n)] from rfl];clear G_Bm;subst hn;ac_rfl;rw [jw];refine⟨room,first,axs,vo,aS,λ H1 e1=>?_⟩;have k1:=k H1 e1;clear k;ac_rfl
def dj{vals:List Int}{c:Int}(h0:0<=c)(h1:c < vals.length):atI (vals.map V.int) c=some (.int (vals.getD c.toNat 0)):=by
 obtain⟨n,rfl⟩:=QU h0;have hn:n < vals.length:=by omega
 refine cH ?_;rw [QL,QB hn];simp [List.getD,QB hn]
def Cn{n:Nat}{c:Int}(h0:0<=c)(h1:c < n):ixN n c=some c.toNat:=by
 unfold ixN;rw [if_pos h0,if_pos %[0|8]]
def JK(cs:List Int):Al (λ (z:Int) (y:V)=>y=.int z) cs (cs.map V.int):=by
 refine⟨by rw [QE],λ i z y hz hy=>?_⟩;rw [QL,hz] at hy;cases hy;rfl
def fk(cs:List Int)(n:Nat):Prop:=∀ c∈cs,0<=c/\c < (n:Int)
def iB(vals cs:List Int):List Int:=cs.map λ c=>vals.getD c.toNat 0
def uu(vals cs ws:List Int):List Int:=(cs.zip ws).foldl (λ vs p=>vs.set p.1.toNat p.2) vals
abbrev vt(CS CV:Addr)(s:Addr)(v:Addr)(H:Hp)(Q:VK)(E:XK):Prop:=∃ (l:Addr) (vals:List Int) (room first:Int) (axs:List (Int × Int)),cU CS H s l vals/\aE CV H v room first axs/\fh axs/\room=vals.length/\ae (axs.map λ a=>a.1)<=4096/\fk (af first axs) vals.length/\∀ (r:Addr) (H':Hp),H r=none->Ext H H'->H' r=some (.lst ((iB vals (af first axs)).map V.int))->Q (.ref r) H'
def xN(CS CV:Addr):Sp:=λ vs H Q E=>∃ (s:Addr) (v:Addr),vs=[.ref s,.ref v]/\(vt CS CV s v H Q E)
def EO(CS CV:Addr)(s:Addr)(v:Addr)(H:Hp)(Q:VK)(E:XK):xN CS CV [.ref s,.ref v] H Q E=(vt CS CV s v H Q E):=gN (f:=λ (s:Addr) (v:Addr)=>[.ref s,.ref v]) (λ _ _ _ _ h=>by cases h;exact⟨rfl,rfl⟩) s v
def px(T:Tx K mg t):bj P w K mg base CX0 5 t.a_Br t.d_Br ["self", "view"] (xN t.a_Vl t.a_Vm):=by
 have G_tY:=%[bo|46];have G_Bo:=%[bR|46];refine T.F_Br.ok rX (λ _ _ _ _ h=>gO h λ _ _=>rfl) (λ c A o s' H vs Q E hr h=>?_)
 ·obtain⟨s,v,rfl,l,vals,room,first,axs,so,vo,a3,aX,bS,aS,k⟩:=h;subst aX;obtain⟨dx,hs⟩:=so.ob;obtain⟨dy,D,hv,_⟩:=vo.ob;have a5:=so.fl;have c1:=T.cl_Store;have c2:=T.na_Store_floor;have c3:=T.cl_View;have f1:=dY l;have f2:=bJ l (m := "refuse_room") nofun
  have f3:=vn (vals.length:Int) first D (m := "cells") nofun
  refine⟨_,%[%[%[%[0|0],T.cl_Store,T.mt_Store_refuse_room,G_tY,(hr.mono ⋯),T.b_tY,.nil,aZ,%[%[1|0]|1],∅,∅,∅|37],∅|19],%[%[%[(["cell", "self", "view"]),(1),(aC (aa eo) ["self", "view"] rfl rfl nofun),rfl,%[%[%[1|0],T.cl_View,T.mt_View_cells,G_Bo,(hr.mono ⋯),T.b_Bo,.nil,aZ,∅|23]|18],(λ C s₀ H₀ ex pn=>%[(0),_,(show List.Nodup (["cell", "self", "view"]:List Str) from by decide +kernel),rfl,(Or.inl rfl),%[0|7]|15]),(λ C s₀ H₀ ex pn=>(@aI _)),(λ C s₀ H₀ ex pn=>%[bY,(@Dm _ _ _ _ _ (K) rfl %[1|0] rfl),%[0|0],(λ _ _=>rfl)|13]),(by intros;rfl)|22]|12]|10]|9],?_⟩;rw [show aw ["self", "view"] [.ref s,.ref v]=[some (.ref s),some (.ref v)] from rfl];clear G_tY G_Bo;ac_rfl;rw [gz];refine⟨l,vals,_,first,axs,so,vo,rfl,?_⟩;ac_rfl;rw [dI];refine⟨_,first,axs,vo,a3,λ _ r1 H1 b1 e1 h1=>?_,λ h=>absurd h %[0|8]⟩
  have a6:=aF first axs λ a ha=>(a3.2 a ha).1
  have a7:=e1.at hs;have a4:=e1.at a5;unfold iB at k
  generalize af first axs=cs at h1 aS k a6
  have a9:cs.length<=4096:=by omega
  ac_rfl;have wk:=dE (K:=K) (R:=λ (z:Int) y _=>y=.int z) (λ _ _ _ _ h _=>h) h1 (JK cs);refine bc cs (λ _=>true) (λ c=>.int (vals.getD c.toNat 0)) (λ z y _=>y=.int z) wk.1 wk.2 (aj %[0|8]) ?_ ?_
  ·intro D2 c y H' N1 N0 hc hD e hy k1 _;subst hy;have b2:=dj (aS c hc).1 (aS c hc).2;have b3:=k1 rfl H' (Ext.refl _);have b4:=e.at a7;have bt:=e.at a4;clear k1 k aS hc;simp! only [↓aV,↓aO]
  ·intro D2 H2 a8 e2 h2;rw [jc] at h2;have k2:=k D2 H2 (e1.free a8) (e1.trans e2) (by rw [h2,Rq];rfl);clear k aS;ac_rfl
def qt{vals cs ws:List Int}{i:Nat}{c z:Int}(hc:cs[i]? = some c)(hw:ws[i]? = some z):uu vals (cs.take (i+1)) (ws.take (i+1))=(uu vals (cs.take i) (ws.take i)).set c.toNat z:=by
 unfold uu
 have e1:(cs.take (i+1)).zip (ws.take (i+1))=(cs.take i).zip (ws.take i)++[(c,z)]:=by
  rw [RD,RD,hc,hw,U6 (by
   have h1:=(QD.mp hc).1;have h2:=(QD.mp hw).1;rw [Rf,Rf];omega)]
  rfl
 rw [e1,Sr];rfl
def De(vals:List Int):∀ (ps:List (Int × Int)),(ps.foldl (λ vs p=>vs.set p.1.toNat p.2) vals).length=vals.length:=by
 intro ps
 induction ps generalizing vals with
 | nil=>rfl
 | cons p ps ih=>rw [Sq,ih,SG]
def lq(vals cs ws:List Int):(uu vals cs ws).length=vals.length:=De vals _
def oM(xs:List Int)(j:Nat)(z:Int):(xs.map V.int).set j (.int z)=(xs.set j z).map V.int:=by
 rw [List.map_set]
def FN(CS CV:Addr):Sp:=λ vs H Q E=>∃ (s:Addr) (v:Addr) (p:Addr),vs=[.ref s,.ref v,.ref p]/\(∃ (l:Addr) (vals:List Int) (room first:Int) (axs:List (Int × Int)) (ws:List Int),cU CS H s l vals/\aE CV H v room first axs/\fh axs/\room=vals.length/\vals.length<=4096/\ae (axs.map λ a=>a.1)<=4096/\fk (af first axs) vals.length/\H p=some (.lst (ws.map V.int))/\p ≠ l/\(ws.length:Int)=ae (axs.map λ a=>a.1)/\∀ H',(∀ H0,Ext H0 H->H0 l=none->Ext H0 H')->(∀ b o,b ≠ l->H b=some o->H' b=some o)->H' l=some (.lst ((uu vals (af first axs) ws).map V.int))->Q .non H')
def zw(CS CV:Addr)(s:Addr)(v:Addr)(p:Addr)(H:Hp)(Q:VK)(E:XK):FN CS CV [.ref s,.ref v,.ref p] H Q E=(∃ (l:Addr) (vals:List Int) (room first:Int) (axs:List (Int × Int)) (ws:List Int),cU CS H s l vals/\aE CV H v room first axs/\fh axs/\room=vals.length/\vals.length<=4096/\ae (axs.map λ a=>a.1)<=4096/\fk (af first axs) vals.length/\H p=some (.lst (ws.map V.int))/\p ≠ l/\(ws.length:Int)=ae (axs.map λ a=>a.1)/\∀ H',(∀ H0,Ext H0 H->H0 l=none->Ext H0 H')->(∀ b o,b ≠ l->H b=some o->H' b=some o)->H' l=some (.lst ((uu vals (af first axs) ws).map V.int))->Q .non H'):=B2 (f:=λ (s:Addr) (v:Addr) (p:Addr)=>[.ref s,.ref v,.ref p]) (λ _ _ _ _ _ _ h=>by cases h;exact⟨rfl,rfl,rfl⟩) s v p
def jK(T:Tx K mg t):bj P w K mg base CX0 5 t.a_Ea t.d_Ea ["self", "view", "values"] (FN t.a_Vl t.a_Vm):=by
 have G_tY:=%[bo|46];have G_wY:=%[gr|46];have G_Bo:=%[bR|46];refine T.F_Ea.ok iy (λ _ _ _ _ h=>B3 h λ _ _ _=>rfl) (λ c A o s' H vs Q E hr h=>?_)
 ·obtain⟨s,v,p,rfl,l,vals,room,first,axs,ws,so,vo,a4,a5,cS,cT,a6,hp,b5,b6,k⟩:=h;subst a5;obtain⟨dx,hs⟩:=so.ob;obtain⟨dy,D,hv,_⟩:=vo.ob;have bt:=so.fl;have c1:=T.cl_Store;have c2:=T.na_Store_floor;have c3:=T.cl_View;have f1:=dY l;have f2:=bJ l (m := "refuse_room") nofun
  have f3:=vn (vals.length:Int) first D (m := "cells") nofun
  refine⟨_,%[%[%[%[0|0],T.cl_Store,T.mt_Store_refuse_room,G_tY,(hr.mono ⋯),T.b_tY,.nil,aZ,%[%[1|0]|1],∅,∅,∅|37],∅|19],%[%[%[wY,%[%[1|0],%[%[len,ak,%[%[2|0]|1]|6]|1]|1]|3],∅|19],%[%[QT,rfl,%[∅,T.z_zip,%[%[%[1|0],T.cl_View,T.mt_View_cells,G_Bo,(hr.mono ⋯),T.b_Bo,.nil,aZ,∅|23],%[%[2|0]|1]|1],∅,∅|41],(%[(2),rfl,%[%[3,iy|5],%[%[4,iy|5],(@aL _),∅|16],∅|16],∅,∅|26].mono λ _ _ _ _ h=>b0 h),%[(@pU _ _ _ _ _ _ %[4|0] (@uB _ _ _ _ _ _ _ %[%[0|0],rfl|27] %[3|0] jU (by intros;rfl)) ∅ ∅ ∅)|10],(by intros;rfl)|21]|10]|9]|9],?_⟩;rw [show aw ["self", "view", "values", "cell", "value"] [.ref s,.ref v,.ref p]=[some (.ref s),some (.ref v),some (.ref p),none,none] from rfl];clear G_tY G_wY G_Bo;ac_rfl;rw [gz];refine⟨l,vals,_,first,axs,so,vo,rfl,?_⟩;ac_rfl;rw [ng];refine⟨_,first,axs,vo,a4,(by first|rfl|exact b6),λ H1 e1=>?_⟩;have c0:=e1.at hv;have b7:=e1.at hp;ac_rfl;rw [dI];refine⟨_,first,axs,vo.ext e1,a4,λ _ r2 H2 bS e2 h2=>?_,λ h=>absurd h %[0|8]⟩
  have cf:=aF first axs λ a ha=>(a4.2 a ha).1
  generalize af first axs=cs at h2 a6 k cf
  have b1:cs.length=ws.length:=by omega
  have cm:=e2.at b7;have a7:=(e1.trans e2).at hs;have aX:=(e1.trans e2).at bt;have b2:r2 ≠ l:=λ z=>by rw [z,e1.at bt] at bS;cases bS
  ac_rfl;refine ku (ka:=false) (kb:=false) (xs:=cs.map V.int) (ys:=ws.map V.int) (λ i σ H'=>∃ v3 v4:Option V,σ=[some (.ref s),some (.ref v),some (.ref p),v3,v4]/\(∀ H0,Ext H0 H2->H0 l=none->Ext H0 H')/\(∀ b o,b ≠ l->H2 b=some o->H' b=some o)/\H' l=some (.lst ((uu vals (cs.take i) (ws.take i)).map V.int))) ⟨none,none,rfl,λ _ q _=>q,λ _ _ _ q=>q,aX⟩ (λ i σ H' ⟨_,_,_,_,hk,_⟩=>⟨hk _ _ b2 h2,hk _ _ b5 cm⟩) ?_ ?_
  ·rintro i u x q _ H3 H4 hu hx ⟨v3,v4,rfl,a8,aS,h3⟩ hq e4 h4;rw [QL] at hu hx;obtain⟨c,hc,rfl⟩:=QJ.mp hu;obtain⟨z,hz,rfl⟩:=QJ.mp hx;have b3:=a6 c (QV hc);have c4:=e4.at (aS _ _ (λ z=>by rw [z,aX] at a7;cases a7) a7);have b4:=e4.at h3;have hlen:=lq vals (cs.take i) (ws.take i);have a3:=λ (_:Unit)=>qt (vals:=vals) hc hz;generalize uu vals (cs.take i) (ws.take i)=vv at h3 b4 hlen a3;have c5:ixN vv.length c=some c.toNat:=Cn b3.1 (by rw [hlen];exact b3.2);clear hu hx hc hz k a6 hlen h3;simp! only [↓aA];refine⟨_,_,rfl,λ H0 q0 q1=>((a8 H0 q0 q1).trans e4).put q1,λ b o hb a9=>by rw [ah hb];exact e4.at (aS b o hb a9),?_⟩;rw [a3 (),←oM]
  ·rintro _ H3 ⟨v3,v4,rfl,a8,aS,h3⟩;have hm:min (cs.map V.int).length (ws.map V.int).length=cs.length:=by rw [QE,QE];omega
   rw [hm,Rz,b1,Rz] at h3;exact k H3 (λ H0 q0 q1=>a8 H0 (q0.trans (e1.trans e2)) q1) (λ b o hb a9=>aS b o hb ((e1.trans e2).at a9)) h3
abbrev nG(CS CV:Addr)(s:Addr)(v:Addr)(u:Addr)(H:Hp)(Q:VK)(E:XK):Prop:=∃ (l:Addr) (vals:List Int) (f1 f2:Int) (a1 a2:List (Int × Int)),cU CS H s l vals/\aE CV H v vals.length f1 a1/\aE CV H u vals.length f2 a2/\fh a1/\fh a2/\vals.length<=4096/\ae (a1.map λ a=>a.1)<=4096/\ae (a2.map λ a=>a.1)=ae (a1.map λ a=>a.1)/\fk (af f1 a1) vals.length/\fk (af f2 a2) vals.length/\∀ H',(∀ H0,Ext H0 H->H0 l=none->Ext H0 H')->(∀ b o,b ≠ l->H b=some o->H' b=some o)->H' l=some (.lst ((uu vals (af f1 a1) (iB vals (af f2 a2))).map V.int))->Q .non H'
def oF(CS CV:Addr):Sp:=λ vs H Q E=>∃ (s:Addr) (v:Addr) (u:Addr),vs=[.ref s,.ref v,.ref u]/\(nG CS CV s v u H Q E)
def xm(CS CV:Addr)(s:Addr)(v:Addr)(u:Addr)(H:Hp)(Q:VK)(E:XK):oF CS CV [.ref s,.ref v,.ref u] H Q E=(nG CS CV s v u H Q E):=B2 (f:=λ (s:Addr) (v:Addr) (u:Addr)=>[.ref s,.ref v,.ref u]) (λ _ _ _ _ _ _ h=>by cases h;exact⟨rfl,rfl,rfl⟩) s v u
def lP(T:Tx K mg t):bj P w K mg base CX0 6 t.a_wZ t.d_wZ ["self", "to", "source"] (oF t.a_Vl t.a_Vm):=by
 have G_tY:=%[bo|46];have G_wY:=%[gr|46];have G_Bm:=%[fL|46];have G_Br:=%[px|46];have G_Ea:=%[jK|46];refine T.F_wZ.ok mx (λ _ _ _ _ h=>B3 h λ _ _ _=>rfl) (λ c A o s' H vs Q E hr h=>?_)
 ·obtain⟨s,v,u,rfl,l,vals,f1,f2,a1,a2,so,vo,wo,a5,a4,a8,a6,aX,a9,bt,k⟩:=h;obtain⟨dx,hs⟩:=so.ob;obtain⟨dy,D,hv,_⟩:=vo.ob;obtain⟨dz,D2,hu,_⟩:=wo.ob;have bS:=so.fl;have c1:=T.cl_Store;have c3:=T.cl_View;have g1:=bJ l (m := "refuse_room") nofun;have g2:=bJ l (m := "read") nofun;have g3:=bJ l (m := "put") nofun;have g4:=vn (vals.length:Int) f2 D2 (m := "count") nofun;refine⟨_,%[%[%[%[0|0],T.cl_Store,T.mt_Store_refuse_room,G_tY,(hr.mono ⋯),T.b_tY,.nil,aZ,%[%[1|0]|1],∅,∅,∅|37],∅|19],%[%[%[%[0|0],T.cl_Store,T.mt_Store_refuse_room,G_tY,(hr.mono ⋯),T.b_tY,.nil,aZ,%[%[2|0]|1],∅,∅,∅|37],∅|19],%[%[%[wY,%[%[1|0],%[%[%[2|0],T.cl_View,T.mt_View_count,G_Bm,(hr.mono ⋯),T.b_Bm,.nil,aZ,∅|23]|1]|1]|3],∅|19],%[%[%[%[0|0],T.cl_Store,T.mt_Store_put,G_Ea,(hr.mono ⋯),T.b_Ea,.nil,aZ,%[%[1|0],%[%[%[0|0],T.cl_Store,T.mt_Store_read,G_Br,(hr.mono ⋯),T.b_Br,.nil,aZ,%[%[2|0]|1],∅,∅,∅|37]|1]|1],∅,∅,∅|37],∅|19]|10]|9]|9]|9],?_⟩;rw [show aw ["self", "to", "source"] [.ref s,.ref v,.ref u]=[some (.ref s),some (.ref v),some (.ref u)] from rfl];clear G_tY G_wY G_Bm G_Br G_Ea;ac_rfl;rw [gz];refine⟨l,vals,_,f1,a1,so,vo,rfl,?_⟩;ac_rfl;rw [gz];refine⟨l,vals,_,f2,a2,so,wo,rfl,?_⟩;ac_rfl;rw [jw];refine⟨_,f2,a2,wo,a4,λ H1 e1=>?_⟩;exists aX;ac_rfl;rw [ng];refine⟨_,f1,a1,vo.ext e1,a5,aX (),λ H2 e2=>?_⟩;have aS:=e1.trans e2;have b3:=aS.at hs;ac_rfl;rw [EO];refine⟨l,vals,_,f2,a2,so.ext aS,wo.ext aS,a4,rfl,by rw [aX ()];exact a6,bt,λ r H3 a7 e3 h3=>?_⟩;have b1:r ≠ l:=λ z=>by rw [z,aS.at bS] at a7;cases a7
  have a3:=aS.trans e3;ac_rfl;rw [zw];refine⟨l,vals,_,f1,a1,_,so.ext a3,vo.ext a3,a5,rfl,a8,a6,a9,h3,b1,?_,λ H4 q1 q2 q3=>?_⟩
  ·unfold iB;rw [length_map,←aX ()];exact aF f2 a2 λ a ha=>(a4.2 a ha).1
  ·have k1:=k H4 (λ H0 x0 x1=>q1 H0 (x0.trans a3) x1) (λ b o hb b2=>q2 b o hb (a3.at b2)) q3;clear k;ac_rfl
abbrev nF  (n:Int) (b:Int) (m:Int) (H:Hp) (Q:VK) (E:XK):Prop:=1<=b/\b<=1000/\0<=m/\m<=8/\∀ (ds:List Int) (r:Addr) (H':Hp),H r=none->Ext H H'->H' r=some (.lst (ds.map V.int))->(ds.length:Int)=m->(∀ d∈ds,0<=d/\d < b)->Q (.ref r) H'
def oE  : Sp:=λ vs H Q E=>∃ (n:Int) (b:Int) (m:Int),vs=[.int n,.int b,.int m]/\(nF  n b m H Q E)
def jy  (n:Int) (b:Int) (m:Int) (H:Hp) (Q:VK) (E:XK):oE  [.int n,.int b,.int m] H Q E=(nF  n b m H Q E):=B2 (f:=λ (n:Int) (b:Int) (m:Int)=>[.int n,.int b,.int m]) (λ _ _ _ _ _ _ h=>by cases h;exact⟨rfl,rfl,rfl⟩) n b m
def cZ(T:Tx K mg t):bj P w K mg base CX0 1 t.a_Bf t.d_Bf ["_law_number_here", "_law_by", "_law_many"] oE:=by
 refine T.F_Bf.ok dD (λ _ _ _ _ h=>B3 h λ _ _ _=>rfl) (λ c A o s H vs Q E hr h=>?_)
 ·obtain⟨n,b,m,rfl,hb,a5,a6,a7,k⟩:=h;refine⟨_,%[%[3,dD,%[(@cx _)|20]|4],%[%[QT,rfl,%[∅,T.z_range,%[%[2|0]|1],∅|35],%[4,dD|5],%[%[%[Q3,RG,RF,b8,%[3|0],%[%[pY,%[0|0],%[1|0]|11]|1],∅,∅,∅,∅,∅|33],∅|19],%[%[0,dD,%[kn,%[0|0],%[1|0]|11]|4]|10]|9],(by intros;rfl)|21],%[%[%[3|0]|12]|10]|9]|9],?_⟩;rw [show aw ["_law_number_here", "_law_by", "_law_many", "_law_found", "_law_k"] [.int n,.int b,.int m]=[some (.int n),some (.int b),some (.int m),none,none] from rfl];have a4:0 < b:=by omega
  ac_rfl;intro r H1 aX e1 h1;ac_rfl;refine⟨by omega,by omega,?_⟩;refine hG (λ i σ H'=>∃ (x:Int) (ds:List Int) (v4:Option V),σ=[some (.int x),some (.int b),some (.int m),some (.ref r),v4]/\Ext H H'/\H' r=some (.lst (ds.map V.int))/\ds.length=i/\∀ d∈ds,0<=d/\d < b) ⟨n,[],none,rfl,e1,h1,rfl,λ _ h=>absurd h QR⟩ ?_ ?_
  ·rintro i _ H2 hi ⟨x,ds,v4,rfl,e2,h2,a3,aS⟩;have a8:i < m.toNat:=hi;have g1:=R3 x (show b ≠ 0 by omega);have g2:=RJ x a4;have a9:ds.length < sizeLine:=eU %[0|8];exists aS;clear hi k;simp! only [↓aA];refine⟨eU %[0|8],by omega,x / b,ds++[x % b],_,rfl,e2.put aX,by rw [RA];rfl,by simp [a3],λ d hd=>?_⟩
   rcases Q6.mp hd with h|h
   ·exact aS () d h
   ·rw [QF.mp h];exact⟨g1,g2⟩
  ·rintro _ H2 ⟨x,ds,v4,rfl,e2,h2,a3,aS⟩;have k1:=k ds r H2 aX e2 h2 %[0|8] aS;clear k aS;ac_rfl
def eS(os:List (Int × Int))(n:Nat):Prop:=os.length=n/\(os.map λ o=>o.1).Perm ((List.range n).map λ (i:Nat)=>(i:Int))/\∀ o∈os,o.2=1\/o.2=-1
def mZ:∀ (xs:List Int) (k:Nat),(xs.map V.int).eraseIdx k=(xs.eraseIdx k).map V.int
 | [],k=>by cases k<;>rfl
 | x::xs,0=>rfl
 | x::xs,k+1=>RS (V.int x::·) (mZ xs k)
def mY:∀ {xs:List Int}{k:Nat}{x:Int},xs[k]? = some x->(x::xs.eraseIdx k).Perm xs
 | [],k,x,h=>by simp at h
 | y::xs,0,x,h=>by cases h;exact List.Perm.refl _
 | y::xs,k+1,x,h=>(List.Perm.swap y x _).trans ((mY (xs:=xs) (k:=k) (by simpa using h)).cons y)
def Gx(cT:Addr)(H:Hp)(Q:VK)(E:XK):List Int->Prop:=λ ns=>(ae ns<=4096->∀ D H',H D=none->Ext H H'->aP H' D (bE ns)->Q (.ref D) H')/\¬ 4096 < ae ns
def yw(cT:Addr)(H:Hp)(Q:VK)(E:XK)(ns:List Int):Gx cT H Q E ns=((ae ns<=4096->∀ D H',H D=none->Ext H H'->aP H' D (bE ns)->Q (.ref D) H')/\¬ 4096 < ae ns):=rfl
def oz(cT:Addr):Sp:=λ vs H Q E=>∃ (p:Addr),vs=[.ref p]/\(aH (az H p) (dR (kSz (Gx cT H Q E))))
def nh(cT:Addr)(p:Addr)(H:Hp)(Q:VK)(E:XK):oz cT [.ref p] H Q E=(aH (az H p) (dR (kSz (Gx cT H Q E)))):=lX (f:=λ (p:Addr)=>[.ref p]) (λ _ _ h=>by cases h;exact rfl) p
def qz(T:Tx K mg t):bj P w K mg base CX0 4 t.a_Vf t.d_Vf ["sizes"] (oz t.a_Ve):=by
 have G_Eh:=%[fA|46];have G_Bd:=%[eN|46];have G_wR:=%[gq|46];refine T.F_Vf.ok vk (λ _ _ _ _ h=>lU h λ _=>rfl) (λ c A o s H vs Q E hr h=>?_)
 ·obtain⟨p,rfl,h⟩:=h;obtain⟨xs,hp,ns,rfl,hs,k1,k2⟩:=ai h;replace hp:=bp hp;clear h;refine⟨_,%[%[1,vk,%[Eh,%[%[0|0]|1]|3]|4],%[%[%[Bd,%[%[1|0]|1]|3],∅|19],%[%[%[(["number", "sizes", "count"]),(1),(aC (aa jV) ["sizes", "count"] rfl rfl nofun),rfl,%[∅,T.z_range,%[%[1|0]|1],∅|35],(λ C s₀ H₀ ex pn=>%[(0),_,(show List.Nodup (["number", "sizes", "count"]:List Str) from by decide +kernel),rfl,(Or.inl rfl),%[0|7]|15]),(λ C s₀ H₀ ex pn=>(@aI _)),(λ C s₀ H₀ ex pn=>%[wR,%[%[1|0],%[%[0|0]|1]|1]|3]),(by intros;rfl)|22]|12]|10]|9]|9],?_⟩;rw [show aw ["sizes", "count"] [.ref p]=[some (.ref p),none] from rfl];have a7:=hs.prod.1;simp! only [↓iU,↓pR,↓pS];rw [oT];refine⟨λ hn=>?_,k2⟩;have a3:=k1 hn;clear k1 k2;have aS:ae ns < 2 ^ 62:=by omega
  have a4:-(2 ^ 62)<=ae ns:=by omega
  ac_rfl;refine⟨a4,aS,?_⟩;refine iJ (List.range (ae ns).toNat) (λ _=>true) (λ j x H'=>x=.int (0+(j:Nat))) (λ D j y H'=>∃ q,y=.ref q/\q ≠ D/\H' q=some (.tup ((ao ns (j:Nat)).map V.int))) fM.1 fM.2 (λ D _ y H1 H2 ⟨q,h1,h2,h3⟩ e=>⟨q,h1,h2,e.at h3⟩) (λ D _ y H1 o ⟨q,h1,h2,h3⟩=>⟨q,h1,h2,by rw [ah h2];exact h3⟩) (aj (by rw [Rb];omega)) ?_ ?_
  ·intro D j x H' N1 N0 hz hD e ⟨a8,aX⟩ hx kk _;subst hx;have a9:=e.at hp;have a5:=kk rfl;clear kk;simp! only [↓aV,↓aO,↓qP,↓pR];rw [uy];intro r H2 aS e2 h2;rw [Rv] at h2;exact a5 _ H2 e2 ⟨r,rfl,(λ z=>by rw [z,aX] at aS;cases aS),h2⟩
  ·intro D ys H' hD e a6 al;rw [jc] at al;refine a3 D H' hD e ⟨ys,a6,?_,λ i z y hz hy=>?_⟩
   ·rw [al.1,Rb,eY]
   ·unfold bE at hz;rw [getElem?_map] at hz;obtain⟨j,hj,rfl⟩:=Option.map_eq_some_iff.mp hz;obtain⟨q,h1,_,h3⟩:=al.2 i j y hj hy;exact⟨q,h1,h3⟩
def eC(ms:List Int)(o:Int × Int)(y:Int):Int:=if o.2=1 then y else ms.getD o.1.toNat 0 - 1 - y
def dq(ms:List Int)(os:List (Int × Int))(ys:List Int):List Int:=(os.zip ys).foldl (λ pl p=>pl.set p.1.1.toNat (eC ms p.1 p.2)) (List.replicate ms.length 0)
def wa(ms:List Int)(ps:List ((Int × Int) × Int)):∀ pl:List Int,(ps.foldl (λ pl p=>pl.set p.1.1.toNat (eC ms p.1 p.2)) pl).length=pl.length:=by
 induction ps with
 | nil=>intro pl;rfl
 | cons p ps ih=>intro pl;rw [Sq,ih,SG]
def tE{ms:List Int}{os:List (Int × Int)}{ys:List Int}{i:Nat}{o:Int × Int}{y:Int}(ho:os[i]? = some o)(hy:ys[i]? = some y):dq ms (os.take (i+1)) (ys.take (i+1))=(dq ms (os.take i) (ys.take i)).set o.1.toNat (eC ms o y):=by
 unfold dq
 have e1:(os.take (i+1)).zip (ys.take (i+1))=(os.take i).zip (ys.take i)++[(o,y)]:=by
  rw [RD,RD,ho,hy,U6 (by
   have h1:=(QD.mp ho).1;have h2:=(QD.mp hy).1;rw [Rf,Rf];omega)]
  rfl
 rw [e1,Sr];rfl
def jW(n:Nat):(List.replicate n [V.int 0]).flatten=(List.replicate n (0:Int)).map V.int:=by
 induction n with
 | zero=>rfl
 | succ n ih=>rw [SE,To,ih,SE,RQ];rfl
abbrev lI  (p:Addr) (o:Addr) (q:Addr) (H:Hp) (Q:VK) (E:XK):Prop:=∃ (ms:List Int) (os:List (Int × Int)) (ys:List Int),H p=some (.lst (ms.map V.int))/\aP H o (os.map λ o=>[o.1,o.2])/\H q=some (.tup (ys.map V.int))/\ms.length<=8/\ys.length=os.length/\(∀ o∈os,0<=o.1/\o.1 < (ms.length:Int))/\∀ (r:Addr) (H':Hp),H r=none->Ext H H'->H' r=some (.tup ((dq ms os ys).map V.int))->Q (.ref r) H'
def kI  : Sp:=λ vs H Q E=>∃ (p:Addr) (o:Addr) (q:Addr),vs=[.ref p,.ref o,.ref q]/\(lI  p o q H Q E)
def uh  (p:Addr) (o:Addr) (q:Addr) (H:Hp) (Q:VK) (E:XK):kI  [.ref p,.ref o,.ref q] H Q E=(lI  p o q H Q E):=B2 (f:=λ (p:Addr) (o:Addr) (q:Addr)=>[.ref p,.ref o,.ref q]) (λ _ _ _ _ _ _ h=>by cases h;exact⟨rfl,rfl,rfl⟩) p o q
def jB(T:Tx K mg t):bj P w K mg base CX0 1 t.a_wK t.d_wK ["sizes", "order", "steps"] kI:=by
 refine T.F_wK.ok ck (λ _ _ _ _ h=>B3 h λ _ _ _=>rfl) (λ c A o s H vs Q E hr h=>?_)
 ·obtain⟨p,o,q,rfl,ms,os,ys,hp,⟨us,ho,al⟩,hq,h8,a3,a4,k⟩:=h;refine⟨_,%[%[3,ck,%[sR,%[%[%[0|2]|1]|20],%[len,ak,%[%[0|0]|1]|6]|11]|4],%[%[QT,rfl,%[∅,T.z_zip,%[%[1|0],%[%[2|0]|1]|1],∅,∅|41],(%[(2),rfl,%[%[4,ck|5],%[%[5,ck|5],(@aL _),∅|16],∅|16],∅,∅|26].mono λ _ _ _ _ h=>b0 h),%[(@pU _ _ _ _ _ _ (@oI _ _ _ _ _ _ _ _ %[(cy hr.units),%[bY,%[4|0],%[0|2],(λ _ _=>rfl)|13],%[0|2],(au _)|14] %[5|0] %[eT,%[eT,%[bY,%[0|0],%[bY,%[4|0],%[0|2],(λ _ _=>rfl)|13],(λ _ _=>rfl)|13],%[0|2]|11],%[5|0]|11]) (@uB _ _ _ _ _ _ _ %[3|0] %[bY,%[4|0],%[0|2],(λ _ _=>rfl)|13] jU (by intros;rfl)) ∅ ∅ ∅)|10],(by intros;rfl)|21],%[%[%[iw,∅,T.z_tuple,nofun,%[%[3|0]|1],⋯,⋯,∅,∅|42]|12]|10]|9]|9],?_⟩;rw [show aw ["sizes", "order", "steps", "place", "loop", "step"] [.ref p,.ref o,.ref q]=[some (.ref p),some (.ref o),some (.ref q),none,none,none] from rfl];ac_rfl;intro z1 H1 bt e1 h1;have bS:=e1.at hp;ac_rfl;refine⟨by omega,by omega,aj (by simp;omega),?_⟩;intro r H2 a7 e2 h2;rw [QO,jW] at h2;have aX:=e1.trans e2;have a5:H r=none:=e1.free a7;have b1:=aX.at ho;have b2:=aX.at hq;ac_rfl;refine ku (ka:=false) (kb:=true) (xs:=us) (ys:=ys.map V.int) (λ i σ H'=>∃ v4 v5:Option V,σ=[some (.ref p),some (.ref o),some (.ref q),some (.ref r),v4,v5]/\Ext H H'/\H' r=some (.lst ((dq ms (os.take i) (ys.take i)).map V.int))) ⟨none,none,rfl,aX,h2⟩ (λ i σ H' ⟨_,_,_,e,_⟩=>⟨e.at ho,e.at hq⟩) ?_ ?_
  ·rintro i u x t _ H3 H4 hu hx ⟨v4,v5,rfl,e3,h3⟩ ht e4 h4;rw [QL] at hx;obtain⟨y,hy,rfl⟩:=QJ.mp hx;have hi:i < os.length:=by rw [←a3];exact(QD.mp hy).1
   obtain⟨w,rfl,hw⟩:=al.2 i [os[i].1,os[i].2] u (by rw [getElem?_map,getElem?_eq_getElem hi];rfl) hu;have aS:=λ (_:Unit)=>tE (ms:=ms) (getElem?_eq_getElem hi) hy;have hb:=a4 os[i] (getElem_mem hi);have a8:H4 w=some (.tup [.int os[i].1,.int os[i].2]):=(e3.trans e4).at hw;have b3:=(e3.trans e4).at hp;have a6:=e4.at h3;have hlen:(dq ms (os.take i) (ys.take i)).length=ms.length:=by unfold dq;rw [wa,length_replicate]
   unfold eC at aS;generalize os[i]=oo at aS hb a8;obtain⟨o1,o2⟩:=oo;generalize dq ms (os.take i) (ys.take i)=pl at h3 a6 hlen aS;have b4:ixN pl.length o1=some o1.toNat:=Cn hb.1 (by rw [hlen];exact hb.2);have b5:=dj (vals:=ms) hb.1 hb.2;clear hu hx k a4 hlen h3 hw
   by_cases hg:o2=1
   ·simp! only [↓aA];refine⟨_,_,rfl,(e3.trans e4).put a5,?_⟩;rw [aS (),List.map_set];simp [hg]
   ·simp! only [↓aA];refine⟨_,_,rfl,(e3.trans e4).put a5,?_⟩;rw [aS (),List.map_set];simp [hg]
  ·rintro _ H3 ⟨v4,v5,rfl,e3,h3⟩;have hm:min us.length (ys.map V.int).length=os.length:=by rw [al.1,QE,QE];omega
   rw [hm,Rz,←a3,Rz] at h3;ac_rfl;intro r' H4 a9 e4 h4;exact k r' H4 (e3.free a9) (e3.trans e4) h4
abbrev vA  (q:Addr) (n:Int) (H:Hp) (Q:VK) (E:XK):Prop:=∃ a b:Int,H q=some (.tup [.int a,.int b])/\0<=a/\a < n/\(b=1\/b=-1)/\∀ H',Ext H H'->Q (.bl true) H'
def xR  : Sp:=λ vs H Q E=>∃ (q:Addr) (n:Int),vs=[.ref q,.int n]/\(vA  q n H Q E)
def EU  (q:Addr) (n:Int) (H:Hp) (Q:VK) (E:XK):xR  [.ref q,.int n] H Q E=(vA  q n H Q E):=gN (f:=λ (q:Addr) (n:Int)=>[.ref q,.int n]) (λ _ _ _ _ h=>by cases h;exact⟨rfl,rfl⟩) q n
def wq(T:Tx K mg t):bj P w K mg base CX0 3 t.a_Jc t.d_Jc ["thing", "many"] xR:=by
 have G_t6:=%[cO|46];have G_Eg:=%[dN|46];refine T.F_Jc.ok BX (λ _ _ _ _ h=>gO h λ _ _=>rfl) (λ c A o s H vs Q E hr h=>?_)
 ·obtain⟨q,n,rfl,a,b,hq,a0,a1,hb,k⟩:=h;refine⟨_,%[%[(PW.pt %[%[%[%[isinstance,bb,%[%[0|0],%[%[(.ty "tuple"),(.type "tuple"),_,∅,T.z_tuple,nofun,rfl,⋯,⋯|32]|1]|1]|6],(by intros;rfl)|25]|24],%[%[(c9 hr.units),%[len,ak,%[%[0|0]|1]|6],%[0|2],(au _)|14]|34]|29]),%[%[(@fW _ _ _ _)|12]|10],(@aq _)|17],%[%[%[%[t6,%[%[bY,%[0|0],%[0|2],(λ _ _=>rfl)|13],%[%[1|0]|1]|1]|3],%[%[Eg,%[%[bY,%[0|0],%[0|2],(λ _ _=>rfl)|13]|1]|3],%[%[Lg,%[bY,%[0|0],%[0|2],(λ _ _=>rfl)|13],%[%[%[0|2],%[%[fZ,%[0|2]|43]|1]|1]|28],(by with_unfolding_all rfl)|36]|40]|31]|31]|12]|10]|9],?_⟩;rw [show aw ["thing", "many"] [.ref q,.int n]=[some (.ref q),some (.int n)] from rfl]
  have aS:fY (.int a) n=true:=by
   show (decide (0<=a) && decide (a < n))=true
   rw [Q4 a0,Q4 a1];rfl
  have hc:isW H (.int a)=some true:=rfl;ac_rfl;rw [k9,hc,iM,jT,aS];clear aS hc;ac_rfl;rw [bq];ac_rfl;intro z H1 hz e1 h1;have k':=k H1 e1
  have aX:inV (.int b) [.int 1,.int (-1)]=true:=by rcases hb with rfl|rfl<;>rfl
  clear k hb;ac_rfl;exact⟨rfl,rfl⟩
def eE(n:Nat)(H:Hp)(q:Addr)(os:List (Int × Int)):Prop:=aP H q (os.map λ o=>[o.1,o.2])/\os.length=n/\∀ o∈os,(0<=o.1/\o.1 < (n:Int))/\(o.2=1\/o.2=-1)
abbrev lH  (p:Addr) (q:Addr) (H:Hp) (Q:VK) (E:XK):Prop:=∃ (ms:List Int) (os:List (Int × Int)),H p=some (.lst (ms.map V.int))/\ms.length<=8/\eE ms.length H q os/\(os.map λ o=>o.1).Nodup/\∀ H',Ext H H'->Q (.bl true) H'
def kH  : Sp:=λ vs H Q E=>∃ (p:Addr) (q:Addr),vs=[.ref p,.ref q]/\(lH  p q H Q E)
def ug  (p:Addr) (q:Addr) (H:Hp) (Q:VK) (E:XK):kH  [.ref p,.ref q] H Q E=(lH  p q H Q E):=gN (f:=λ (p:Addr) (q:Addr)=>[.ref p,.ref q]) (λ _ _ _ _ h=>by cases h;exact⟨rfl,rfl⟩) p q
def tK(T:Tx K mg t):bj P w K mg base CX0 4 t.a_IW t.d_IW ["sizes", "thing"] kH:=by
 have G_Jc:=%[wq|46];refine T.F_IW.ok nk (λ _ _ _ _ h=>gO h λ _ _=>rfl) (λ c A o s H vs Q E hr h=>?_)
 ·obtain⟨p,q,rfl,ms,os,hp,h8,⟨⟨us,hu,al⟩,a3,a4⟩,a5,k⟩:=h;refine⟨_,%[(@gQ _ _ (2) _ _ _ _ nk.nd rfl (Or.inr rfl) %[len,ak,%[%[0|0]|1]|6] ∅ %[0|7]),%[%[(PW.pt %[%[%[%[isinstance,bb,%[%[1|0],%[%[(.ty "list"),(.type "list"),_,∅,T.z_list,nofun,rfl,⋯,⋯|32]|1]|1]|6],(by intros;rfl)|25]|24],%[%[(c9 hr.units),%[len,ak,%[%[1|0]|1]|6],%[2|0],(au _)|14],%[%[%[%[all,(kX rfl),%[%[(["loop", "sizes", "thing", "many"]),(1),(aC (aa fe) ["sizes", "thing", "many"] rfl rfl nofun),rfl,%[%[1|0]|18],(λ C s₀ H₀ ex pn=>%[(0),_,(show List.Nodup (["loop", "sizes", "thing", "many"]:List Str) from by decide +kernel),rfl,(Or.inl rfl),%[0|7]|15]),(λ C s₀ H₀ ex pn=>(@aI _)),(λ C s₀ H₀ ex pn=>%[Jc,%[%[0|0],%[%[3|0]|1]|1]|3]),(by intros;rfl)|22]|1]|6],(by intros;rfl)|25]|24]|34]|29]|29]),%[%[(@fW _ _ _ _)|12]|10],(@aq _)|17],%[%[%[(cy hr.units),%[len,xh,%[%[(BI rfl),∅,T.z_set,nofun,%[%[(["loop", "sizes", "thing", "many"]),(1),(aC (aa fe) ["sizes", "thing", "many"] rfl rfl nofun),rfl,%[%[1|0]|18],(λ C s₀ H₀ ex pn=>%[(0),_,(show List.Nodup (["loop", "sizes", "thing", "many"]:List Str) from by decide +kernel),rfl,(Or.inl rfl),%[0|7]|15]),(λ C s₀ H₀ ex pn=>(@aI _)),(λ C s₀ H₀ ex pn=>%[bY,%[0|0],%[0|2],(λ _ _=>rfl)|13]),(by intros;rfl)|22]|1],⋯,⋯,∅,∅|42]|1]|6],%[2|0],(au _)|36]|12]|10]|9]|9],?_⟩;rw [show aw ["sizes", "thing", "many"] [.ref p,.ref q]=[some (.ref p),some (.ref q),none] from rfl];have a7:us.length=ms.length:=by rw [al.1,QE,a3]
  have bS:(us.length:Int)=(ms.length:Int):=by omega
  have aX:=(Hc _).mpr a5;rw [QE,a3] at aX;exists a4;exists k;have wk:=dE (K:=K) (R:=λ z x H'=>bD H' z x) (λ _ _ _ _ h e=>bD.ext h e) hu al;clear G_Jc a5 a7;ac_rfl;refine bc (os.map λ o=>[o.1,o.2]) (λ _=>true) (λ _=>.bl true) (λ z x H'=>bD H' z x) wk.1 wk.2 (aj (by rw [QE];omega)) ?_ ?_
  ·intro D z y H' N1 N0 hz hD e hy k1 _;obtain⟨w',rfl,hw⟩:=hy;obtain⟨o,ho,rfl⟩:=QG.mp hz;have a6:=k1 rfl;have hb:=a4 () o ho;clear k1 k hz wk aX;simp! only [↓aV,↓aO];rw [EU];exact⟨o.1,o.2,hw,hb.1.1,hb.1.2,hb.2,a6⟩
  ·intro D H1 hD e1 h1;rw [jc] at h1;have b1:H1 D=some (.lst ((os.map λ _=>true).map V.bl)):=by rw [h1,Rq,Rq];rfl
   have ea:((os.map λ _=>true).all id)=true:=by rw [all_map];exact SV.mpr λ _ _=>rfl
   have a8:=e1.at hu;have a9:=al.imp λ _ _ z=>bD.ext z e1;have aS:=dE (K:=K) (R:=λ z x H'=>bD H' z x) (λ _ _ _ _ h e=>bD.ext h e) a8 a9;clear h1 wk hu al;ac_rfl;refine bc (os.map λ o=>[o.1,o.2]) (λ _=>true) (λ z=>.int (z.getD 0 0)) (λ z x H'=>bD H' z x) aS.1 aS.2 (aj (by rw [QE];omega)) ?_ ?_
   ·intro D z y H' N1 N0 hz hD e hy k1 _;obtain⟨w',rfl,hw⟩:=hy;obtain⟨o,ho,rfl⟩:=QG.mp hz;have a6:N1 (.int o.1) H':=k1 rfl H' (Ext.refl _);clear k1 k hz aS aX;simp! only [↓aV,↓aO]
   ·intro D2 H2 b2 e2 h2;rw [jc,Rq] at h2;have bt:H2 D2=some (.lst ((os.map λ o=>o.1).map V.int)):=by rw [h2,Rq];rfl
    clear h2 aS;ac_rfl;refine GL bt (by rw [QE];omega) ?_;intro S H3 hS e3 h3;have k2:=k () H3 (e1.trans (e2.trans e3));clear k;ac_rfl;refine CG h3 ?_;ac_rfl
def szO(ms:List Int)(os:List (Int × Int)):List Int:=os.map λ o=>ms.getD o.1.toNat 0
def gb{ms:List Int}{c:Int}(h0:0<=c)(h1:c < (ms.length:Int)):ms.getD c.toNat 0∈ms:=by
 have hn:c.toNat < ms.length:=by omega
 rw [Rh,QB hn];exact Sd hn
def Fe{ms:List Int}{os:List (Int × Int)}(hs:dS ms)(hl:os.length=ms.length)(ho:∀ o∈os,(0<=o.1/\o.1 < (ms.length:Int))/\(o.2=1\/o.2=-1)):dS (szO ms os):=by
 refine⟨by unfold szO;rw [length_map,hl];exact hs.1,λ n hn=>?_⟩;obtain⟨o,h,rfl⟩:=List.mem_map.mp hn;exact hs.2 _ (gb (ho o h).1.1 (ho o h).1.2)
def qo{ns:List Int}{z:List Int}(h:z∈bE ns):z.length=ns.length:=by
 unfold bE at h;obtain⟨j,_,rfl⟩:=List.mem_map.mp h;rw [br]
abbrev vq  (p:Addr) (q:Addr) (H:Hp) (Q:VK) (E:XK):Prop:=∃ (ms:List Int) (os:List (Int × Int)),H p=some (.lst (ms.map V.int))/\ms.length<=8/\eE ms.length H q os/\(os.map λ o=>o.1).Nodup/\∀ H',Ext H H'->Q .non H'
def xM  : Sp:=λ vs H Q E=>∃ (p:Addr) (q:Addr),vs=[.ref p,.ref q]/\(vq  p q H Q E)
def EN  (p:Addr) (q:Addr) (H:Hp) (Q:VK) (E:XK):xM  [.ref p,.ref q] H Q E=(vq  p q H Q E):=gN (f:=λ (p:Addr) (q:Addr)=>[.ref p,.ref q]) (λ _ _ _ _ h=>by cases h;exact⟨rfl,rfl⟩) p q
def lN(T:Tx K mg t):bj P w K mg base CX0 5 t.a_wV t.d_wV ["sizes", "order"] xM:=by
 have G_IW:=%[tK|46];refine T.F_wV.ok mr (λ _ _ _ _ h=>gO h λ _ _=>rfl) (λ c A o s H vs Q E hr h=>?_)
 ·obtain⟨p,q,rfl,ms,os,hp,h8,h1,aS,k⟩:=h;refine⟨_,%[%[%[%[%[IW,%[%[0|0],%[%[1|0]|1]|1]|3],(by intros;rfl)|25]|24],%[(@cj _ _)|10],(@aq _)|17]|10],?_⟩;rw [show aw ["sizes", "order"] [.ref p,.ref q]=[some (.ref p),some (.ref q)] from rfl];ac_rfl;rw [ug];refine⟨ms,os,hp,h8,h1,aS,λ H1 e1=>?_⟩;have k':=k H1 e1;clear k aS;ac_rfl
abbrev nr(cT:Addr)(p:Addr)(q:Addr)(H:Hp)(Q:VK)(E:XK):Prop:=∃ (ms:List Int) (os:List (Int × Int)),H p=some (.lst (ms.map V.int))/\dS ms/\eE ms.length H q os/\(os.map λ o=>o.1).Nodup/\ae (szO ms os)<=4096/\∀ (r:Addr) (H':Hp),H r=none->Ext H H'->aP H' r ((bE (szO ms os)).map λ ys=>dq ms os ys)->Q (.ref r) H'
def oi(cT:Addr):Sp:=λ vs H Q E=>∃ (p:Addr) (q:Addr),vs=[.ref p,.ref q]/\(nr cT p q H Q E)
def xi(cT:Addr)(p:Addr)(q:Addr)(H:Hp)(Q:VK)(E:XK):oi cT [.ref p,.ref q] H Q E=(nr cT p q H Q E):=gN (f:=λ (p:Addr) (q:Addr)=>[.ref p,.ref q]) (λ _ _ _ _ h=>by cases h;exact⟨rfl,rfl⟩) p q
def wj(T:Tx K mg t):bj P w K mg base CX0 6 t.a_Jd t.d_Jd ["sizes", "order"] (oi t.a_Ve):=by
 have G_wV:=%[lN|46];have G_Vf:=%[qz|46];have G_wK:=%[jB|46];refine T.F_Jd.ok qO (λ _ _ _ _ h=>gO h λ _ _=>rfl) (λ c A o s H vs Q E hr h=>?_)
 ·obtain⟨p,q,rfl,ms,os,hp,hs,h1,cm,hn,k1⟩:=h;refine⟨_,%[%[%[wV,%[%[0|0],%[%[1|0]|1]|1]|3],∅|19],%[%[2,qO,%[Vf,%[%[(["loop", "sizes", "order", "walk"]),(1),(aC (aa gc) ["sizes", "order", "walk"] rfl rfl nofun),rfl,%[%[1|0]|18],(λ C s₀ H₀ ex pn=>%[(0),_,(show List.Nodup (["loop", "sizes", "order", "walk"]:List Str) from by decide +kernel),rfl,(Or.inl rfl),%[0|7]|15]),(λ C s₀ H₀ ex pn=>(@aI _)),(λ C s₀ H₀ ex pn=>%[bY,%[1|0],%[bY,%[0|0],%[0|2],(λ _ _=>rfl)|13],(λ _ _=>rfl)|13]),(by intros;rfl)|22]|1]|3]|4],%[%[%[(["steps", "sizes", "order", "walk"]),(1),(aC (aa gc) ["sizes", "order", "walk"] rfl rfl nofun),rfl,%[%[2|0]|18],(λ C s₀ H₀ ex pn=>%[(0),_,(show List.Nodup (["steps", "sizes", "order", "walk"]:List Str) from by decide +kernel),rfl,(Or.inl rfl),%[0|7]|15]),(λ C s₀ H₀ ex pn=>(@aI _)),(λ C s₀ H₀ ex pn=>%[wK,%[%[1|0],%[%[2|0],%[%[0|0]|1]|1]|1]|3]),(by intros;rfl)|22]|12]|10]|9]|9],?_⟩;rw [show aw ["sizes", "order", "walk"] [.ref p,.ref q]=[some (.ref p),some (.ref q),none] from rfl];ac_rfl;rw [EN];refine⟨ms,os,hp,hs.1,h1,cm,λ H1 e1=>?_⟩;obtain⟨⟨us,hu,al⟩,cS,aS⟩:=h1;have aX:=e1.at hu;have a3:=e1.at hp;have a4:=al.imp λ _ _ z=>bD.ext z e1;have h8:=hs.1;ac_rfl;refine bc (os.map λ o=>[o.1,o.2]) (λ _=>true) (λ z=>.int (ms.getD (z.getD 0 0).toNat 0)) (λ z x H'=>bD H' z x) (dE (R:=λ z x H'=>bD H' z x) (λ _ _ _ _ h e=>bD.ext h e) aX a4).1 (dE (R:=λ z x H'=>bD H' z x) (λ _ _ _ _ h e=>bD.ext h e) aX a4).2 (aj (by rw [QE];omega)) ?_ ?_
  ·intro D z y H' N1 N0 hz hD e hy kk _;obtain⟨w,rfl,hw⟩:=hy;obtain⟨o,ho,rfl⟩:=QG.mp hz;have a6:N1 (.int (ms.getD o.1.toNat 0)) H':=kk rfl H' (Ext.refl _);have bt:=e.at a3;have c6:=dj (vals:=ms) (aS o ho).1.1 (aS o ho).1.2;clear kk k1 hz aS hp a3 hu aX;simp! only [↓aV,↓aO]
  ·intro D H2 hD e2 h2;rw [jc,map_map] at h2;have cT:H2 D=some (.lst ((szO ms os).map V.int)):=by rw [h2];unfold szO;rw [map_map];rfl
   have c7:=Fe hs cS aS;have c0:=e1.trans e2;have bS:=e2.at a3;have b1:=e2.at aX;have b2:=a4.imp λ _ _ z=>bD.ext z e2;clear h2 a3 aX a4;simp! only [↓nh,↓pR];rw [yw];refine⟨λ _ W H3 hW e3 h3=>?_,λ h=>absurd h %[0|8]⟩;have a6:=k1;clear k1;obtain⟨ws,a7,a8⟩:=h3;have b3:=e3.at bS;have b4:=e3.at b1;have a5:=b2.imp λ _ _ z=>bD.ext z e3;have c8:(bE (szO ms os)).length<=4096:=by rw [eY];omega
   clear cT bS b1 b2;ac_rfl;refine iJ (bE (szO ms os)) (λ _=>true) (λ z x H'=>bD H' z x) (λ D z y H'=>∃ q,y=.ref q/\q ≠ D/\H' q=some (.tup ((dq ms os z).map V.int))) (dE (R:=λ z x H'=>bD H' z x) (λ _ _ _ _ h e=>bD.ext h e) a7 a8).1 (dE (R:=λ z x H'=>bD H' z x) (λ _ _ _ _ h e=>bD.ext h e) a7 a8).2 (λ D _ y H1 H2 ⟨q,h1,h2,h3⟩ e=>⟨q,h1,h2,e.at h3⟩) (λ D _ y H1 o ⟨q,h1,h2,h3⟩=>⟨q,h1,h2,by rw [ah h2];exact h3⟩) (aj %[0|8]) ?_ ?_
   ·intro D2 z y H' N1 N0 hz b5 e ⟨de,b6⟩ hx kk _;obtain⟨w,rfl,hw⟩:=hx;have c1:=kk rfl;have bt:=e.at b3;have c2:=e.at b4;have c3:=a5.imp λ _ _ z=>bD.ext z e;have c4:=qo hz;clear kk b3 b4 a5 a6 a7 a8 hz;simp! only [↓aV,↓aO];rw [uh];refine⟨ms,os,z,bt,⟨us,c2,c3⟩,hw,h8,by rw [c4];unfold szO;rw [length_map],λ o ho=>(aS o ho).1,λ r H4 b7 e4 h4=>?_⟩;exact c1 _ H4 e4 ⟨r,rfl,(λ z=>by rw [z,b6] at b7;cases b7),h4⟩
   ·intro D2 ys H4 b5 e4 c5 a9;rw [jc] at a9;have cf:=c0.trans e3;refine a6 D2 H4 (cf.free b5) (cf.trans e4) ⟨ys,c5,?_,λ i z y hz hy=>?_⟩
    ·rw [a9.1,QE]
    ·rw [QL] at hz;obtain⟨j,hj,rfl⟩:=QJ.mp hz;obtain⟨q,h1,_,h3⟩:=a9.2 i j y hj hy;exact⟨q,h1,h3⟩
def my(ms:List Int)(o:Int × Int):List Int:=(List.range (ms.getD o.1.toNat 0).toNat).map λ (k:Nat)=>eC ms o (k:Int)
def aD(ms:List Int)(os:List (Int × Int)):List (List Int):=os.foldl (λ fs o=>fs.flatMap λ pl=>(my ms o).map λ k=>pl.set o.1.toNat k) [List.replicate ms.length 0]
def gA(ms:List Int)(os:List (Int × Int))(o:Int × Int):aD ms (os++[o])=(aD ms os).flatMap λ pl=>(my ms o).map λ k=>pl.set o.1.toNat k:=by
 unfold aD;rw [foldl_append];rfl
def tF(ms:List Int)(os:List (Int × Int))(o:Int × Int)(ys:List Int)(y:Int)(h:ys.length=os.length):dq ms (os++[o]) (ys++[y])=(dq ms os ys).set o.1.toNat (eC ms o y):=by
 unfold dq;rw [List.zip_append %[0|8],foldl_append];rfl
def jL{α β:Type}{f g:α->List β}:∀ {l:List α},(∀ x∈l,f x=g x)->l.flatMap f=l.flatMap g
 | [],_=>rfl
 | x::l,h=>by rw [Tp,Tp,h x QP,jL λ y hy=>h y (QM _ hy)]
def yz(ms:List Int)(hs:∀ n∈ms,1<=n/\n<=1000000000)(os:List (Int × Int))(ho:∀ o∈os,0<=o.1/\o.1 < (ms.length:Int)):(bE (szO ms os)).map (λ ys=>dq ms os ys)=aD ms os:=by
 suffices h:∀ (n:Nat) (os:List (Int × Int)),os.length=n->(∀ o∈os,0<=o.1/\o.1 < (ms.length:Int))->(bE (szO ms os)).map (λ ys=>dq ms os ys)=aD ms os from h _ os rfl ho
 intro n
 induction n with
 | zero=>
  intro os h _;have:os=[]:=List.length_eq_zero_iff.mp h;subst this;rfl
 | succ n ih=>
  intro os h ho;obtain⟨as,o,rfl⟩:∃ as o,os=as++[o]:=⟨os.dropLast,os.getLast (by intro e;rw [e] at h;simp at h),(U4 _).symm⟩;have aX:as.length=n:=by rw [QX,RN] at h;omega
  have a3:=ih as aX λ o h=>ho o (QZ _ h);have aS:=ho o (Q8 _ (QF.mpr rfl));have hm:=hs _ (gb aS.1 aS.2)
  have a4:∀ n∈szO ms as,1<=n/\n<=1000000000:=λ n hn=>by
   obtain⟨o,h,rfl⟩:=QG.mp hn;have:=ho o (QZ _ h);exact hs _ (gb this.1 this.2)
  have e1:szO ms (as++[o])=szO ms as++[ms.getD o.1.toNat 0]:=by unfold szO;rw [map_append];rfl
  rw [e1,mO _ _ (by have:=da _ a4;omega) %[0|8],gA,←a3,List.map_flatMap,List.flatMap_map];refine jL λ row hr=>?_;have a5:=qo hr;rw [map_map];unfold my;rw [map_map];refine List.map_congr_left λ k _=>?_
  show dq ms (as++[o]) (row++[(k:Int)])=_
  rw [tF _ _ _ _ _ (by rw [a5];unfold szO;rw [length_map])];rfl
def CY(n:Nat):((List.range n).map λ (k:Nat)=>(k:Int)).reverse=(List.range n).map λ (k:Nat)=>(n:Int) - 1 - (k:Int):=by
 refine T2 (by simp) λ i h1 h2=>?_;simp at h1 h2 ⊢;omega
def GJ(ms:List Int)(o:Int × Int)(h:o.2=1)(h0:0<=ms.getD o.1.toNat 0):rY (ms.getD o.1.toNat 0)=(my ms o).map V.int:=by
 unfold rY my eC;rw [map_map,h];rfl
def GI(ms:List Int)(o:Int × Int)(h:o.2=-1)(h0:0<=ms.getD o.1.toNat 0):(rY (ms.getD o.1.toNat 0)).reverse=(my ms o).map V.int:=by
 have e1:rY (ms.getD o.1.toNat 0)=((List.range (ms.getD o.1.toNat 0).toNat).map λ (k:Nat)=>(k:Int)).map V.int:=by unfold rY;rw [map_map];rfl
 have e2:(my ms o)=(List.range (ms.getD o.1.toNat 0).toNat).map λ (k:Nat)=>(((ms.getD o.1.toNat 0).toNat:Nat):Int) - 1 - (k:Int):=by
  unfold my eC;rw [h,Int.toNat_of_nonneg h0];refine List.map_congr_left λ k _=>?_;rw [if_neg ⋯]
 rw [e1,←U0,CY,e2]
def zV{ms:List Int}:∀ {os:List (Int × Int)}{z:List Int},z∈aD ms os->z.length=ms.length:=by
 intro os;unfold aD
 suffices h:∀ (os:List (Int × Int)) (fs:List (List Int)),(∀ z∈fs,z.length=ms.length)->∀ z∈os.foldl (λ fs o=>fs.flatMap λ pl=>(my ms o).map λ k=>pl.set o.1.toNat k) fs,z.length=ms.length from λ {z} hz=>h os _ (λ z hz=>by rw [QF.mp hz,R7]) z hz
 intro os
 induction os with
 | nil=>exact λ fs h=>h
 | cons o os ih=>
  intro fs h;refine ih _ λ z hz=>?_;obtain⟨pl,hp,hz⟩:=Sj.mp hz;obtain⟨k,_,rfl⟩:=QG.mp hz;rw [SG];exact h pl hp
def Hb(pl:List Int)(a:Nat)(k:Int)(h:a < pl.length):pl.take a++[k]++pl.drop (a+1)=pl.set a k:=by
 rw [List.set_eq_take_append_cons_drop,Rc h,UP];rfl
def pC{a b:Int}(ha:0<=a)(hb:0<=b):a.toNat * b.toNat=(a * b).toNat:=by
 obtain⟨x,rfl⟩:=QU ha;obtain⟨y,rfl⟩:=QU hb;rfl
def CM{ms:List Int}{os:List (Int × Int)}{i:Nat}{o:Int × Int}(hi:os[i]? = some o)(hs:∀ n∈szO ms os,1<=n/\n<=1000000000)(hc:ae (szO ms os)<=4096):(bE (szO ms (os.take i))).length * (ms.getD o.1.toNat 0).toNat<=4096/\(bE (szO ms (os.take i))).length<=4096/\ms.getD o.1.toNat 0<=4096:=by
 have e1:szO ms (os.take i)=(szO ms os).take i:=by unfold szO;rw [map_take]
 have hm:(szO ms os)[i]? = some (ms.getD o.1.toNat 0):=by unfold szO;rw [getElem?_map,hi];rfl
 have hn:=hs _ (QV hm);have q1:=lK (szO ms os) hs (i+1);rw [RD,hm,UD,aU,show ae [ms.getD o.1.toNat 0]=ms.getD o.1.toNat 0 by simp [ae]] at q1;have q2:=(da ((szO ms os).take i) λ n hn=>hs n (RM hn)).1;rw [e1,eY];generalize ae ((szO ms os).take i)=a at *;generalize ms.getD o.1.toNat 0=b at *;have q3:=pC (a:=a) (b:=b) %[0|8] %[0|8];have q4:=Rx hn.1 (show (0:Int)<=a by omega);have q5:=QW q2 (show (0:Int)<=b by omega);omega
def qd{ms:List Int}{os:List (Int × Int)}(hs:∀ n∈ms,1<=n/\n<=1000000000)(ho:∀ o∈os,0<=o.1/\o.1 < (ms.length:Int)):(aD ms os).length=(bE (szO ms os)).length:=by
 rw [←yz ms hs os ho,QE]
def qK{α β:Type}(zs:List α)(f:α->List β)(j:Nat)(z:α)(h:zs[j]? = some z):(zs.take (j+1)).flatMap f=(zs.take j).flatMap f++f z:=by
 rw [Us,h,TK];simp
def u6{α β:Type}(zs:List α)(f:α->List β)(n:Nat)(hf:∀ z∈zs,(f z).length=n):∀ j:Nat,((zs.take j).flatMap f).length<=zs.length * n:=by
 intro j
 have e:∀ l:List α,(∀ z∈l,(f z).length=n)->(l.flatMap f).length=l.length * n:=by
  intro l
  induction l with
  | nil=>simp
  | cons a r ih=>intro h;rw [Tp,QX,ih λ z hz=>h z (QM _ hz),h a QP,Rr,Nat.succ_mul,Nat.add_comm]
 rw [e _ λ z hz=>hf z (RM hz)];exact TB n (by rw [Rf];omega)
def uH{α:Type}{R:α->V->Prop}{zs ws:List α}{ys us:List V}(h:Al R zs ys)(h':Al R ws us):Al R (zs++ws) (ys++us):=by
 refine⟨by rw [QX,QX,h.1,h'.1],λ i z y hz hy=>?_⟩
 by_cases hi:i < zs.length
 ·rw [Rw hi] at hz;rw [Rw (by rw [h.1];exact hi)] at hy;exact h.2 i z y hz hy
 ·rw [Rn %[0|8]] at hz;rw [Rn (by rw [h.1];omega),h.1] at hy;exact h'.2 _ z y hz hy
def Ek{xs:List V}{n:Int}{H:Hp}{Q:VK}(h0:0<=n)(h1:n < xs.length)(q:jb (.tup (xs.take n.toNat)) H Q):Na none (some n) H Q xs:=by
 obtain⟨k,rfl⟩:=QU h0;refine⟨λ e=>?_,?_⟩
 ·have:=e.2;rw [HT.sIx_nat] at this;omega
 ·rw [EJ xs _ h0];exact q
def El{xs:List V}{n:Int}{H:Hp}{Q:VK}(h0:1<=n)(h1:n<=xs.length)(q:jb (.tup (xs.drop n.toNat)) H Q):Na (some n) none H Q xs:=by
 obtain⟨k,rfl⟩:=QU (show 0<=n by omega);refine⟨λ e=>?_,?_⟩
 ·have:=e.1;rw [HT.sIx_nat] at this;omega
 ·rw [EI xs _ (show (0:Int)<=(k:Int) by omega)];exact q
def xI  : Sp:=λ vs H Q E=>∃ (p:Addr) (q:Addr),vs=[.ref p,.ref q]/\(∃ (ms:List Int) (os:List (Int × Int)),H p=some (.lst (ms.map V.int))/\dS ms/\eE ms.length H q os/\ae (szO ms os)<=4096/\∀ (r:Addr) (H':Hp),Ext H H'->aP H' r (aD ms os)->Q (.ref r) H')
def EL  (p:Addr) (q:Addr) (H:Hp) (Q:VK) (E:XK):xI  [.ref p,.ref q] H Q E=(∃ (ms:List Int) (os:List (Int × Int)),H p=some (.lst (ms.map V.int))/\dS ms/\eE ms.length H q os/\ae (szO ms os)<=4096/\∀ (r:Addr) (H':Hp),Ext H H'->aP H' r (aD ms os)->Q (.ref r) H'):=gN (f:=λ (p:Addr) (q:Addr)=>[.ref p,.ref q]) (λ _ _ _ _ h=>by cases h;exact⟨rfl,rfl⟩) p q
def rD(T:Tx K mg t):bj P w K mg base CX0 1 t.a_Ee t.d_Ee ["_law_sizes_here", "_law_order"] xI:=by
 refine T.F_Ee.ok bK (λ _ _ _ _ h=>gO h λ _ _=>rfl) (λ c A o s H vs Q E hr h=>?_)
 ·obtain⟨p,q,rfl,ms,os,hp,hs,⟨⟨us,hu,al⟩,de,a9⟩,hc,kk⟩:=h;refine⟨_,%[%[2,bK,%[%[%[iw,∅,T.z_tuple,nofun,%[%[sR,%[%[%[0|2]|1]|20],%[len,ak,%[%[0|0]|1]|6]|11]|1],⋯,⋯,∅,∅|42]|1]|20]|4],%[%[QT,rfl,%[%[1|0]|18],(%[(2),rfl,%[%[(3),_,bK.nd,rfl,(Or.inr rfl),%[0|7]|15],%[%[4,bK|5],(@aL _),∅|16],∅|16],∅,∅|26].mono λ _ _ _ _ h=>b0 h),%[%[5,bK,(@gm _ _ _ _ _ _ _ rfl ∅ T.z_list ∅ T.z_range %[%[bY,%[0|0],%[3|0],(λ _ _=>rfl)|13]|1] ∅ ∅ ∅)|4],%[%[%[(cy hr.units),%[4|0],%[fZ,%[0|2]|43],(au _)|14],%[%[(@ye _ _ _ _ _ _ _ _ _ Q3 TZ TY js %[5|0] ∅ ∅),∅|19]|10],(@aq _)|17],%[%[6,bK,%[(@cx _)|20]|4],%[%[QT,rfl,%[%[2|0]|18],%[(7),_,bK.nd,rfl,(Or.inr rfl),%[0|7]|15],%[%[%[Q3,S7,S6,iO,%[6|0],%[%[(["_law_k", "_law_sizes_here", "_law_order", "_law_found", "_law_axis", "_law_way", "_law_numbers", "_law_longer", "_law_place"]),(1),(aC (aa ft) ["_law_sizes_here", "_law_order", "_law_found", "_law_axis", "_law_way", "_law_numbers", "_law_longer", "_law_place"] rfl rfl nofun),rfl,%[%[5|0]|18],(λ C s₀ H₀ ex pn=>%[(0),_,(show List.Nodup (["_law_k", "_law_sizes_here", "_law_order", "_law_found", "_law_axis", "_law_way", "_law_numbers", "_law_longer", "_law_place"]:List Str) from by decide +kernel),rfl,(Or.inl rfl),%[0|7]|15]),(λ C s₀ H₀ ex pn=>(@aI _)),(λ C s₀ H₀ ex pn=>%[oK,%[oK,%[Kc,%[8|0],(@df _),%[%[4|0]|39]|38],%[%[%[0|0]|1]|28]|11],%[Kc,%[8|0],%[%[bG,%[4|0],%[0|2]|11]|39],(@df _)|38]|11]),(by intros;rfl)|22]|1],∅,∅,∅,∅,∅|33],∅|19]|10],(by intros;rfl)|21],%[%[2,bK,%[6|0]|4]|10]|9]|9]|9]|9],(by intros;rfl)|21],%[%[%[2|0]|12]|10]|9]|9],?_⟩;rw [show aw ["_law_sizes_here", "_law_order", "_law_found", "_law_axis", "_law_way", "_law_numbers", "_law_longer", "_law_place"] [.ref p,.ref q]=[some (.ref p),some (.ref q),none,none,none,none,none,none] from rfl];have h8:=hs.1;have dr:=Fe hs de a9;have bS:∀ o∈os,0<=o.1/\o.1 < (ms.length:Int):=λ o ho=>(a9 o ho).1;ac_rfl;intro z1 H1 ej e1 h1;have dy:=e1.at hp;ac_rfl;refine⟨by omega,by omega,aj (by simp;omega),?_⟩;intro z2 H2 el e2 h2;rw [QO,jW] at h2;ac_rfl;intro z3 H3 en e3 h3;ac_rfl;intro r H4 ep e4 h4;have b4:=e1.trans (e2.trans (e3.trans e4));have dz:=b4.at hu;have d0:=b4.at hp;have t4:aP H4 r (aD ms (os.take 0)):=⟨_,h4,Al.snoc (zs:=[]) (ys:=[]) Al.nil ⟨z3,rfl,e4.at h3⟩⟩;clear h1 h2 h3 h4 dy;ac_rfl;refine cG (xs:=us) (λ i σ H'=>∃ (r:Addr) (v3 v4 v5 v6 v7:Option V),σ=[some (.ref p),some (.ref q),some (.ref r),v3,v4,v5,v6,v7]/\Ext H H'/\aP H' r (aD ms (os.take i))) ⟨r,_,_,_,_,_,rfl,b4,t4⟩ (λ i σ H' _ ⟨_,_,_,_,_,_,_,e,_⟩=>e.at hu) ?_ ?_
  ·rintro i x _ H5 hi ⟨r,v3,v4,v5,v6,v7,rfl,e5,⟨ys,b5,cm⟩⟩;have bt:i < os.length:=by have h1:=(QD.mp hi).1;have h2:=al.1;rw [QE] at h2;omega
   obtain⟨w,rfl,hw⟩:=al.2 i [os[i].1,os[i].2] x (by rw [QL,QB bt];rfl) hi;have hb:=a9 os[i] (Sd bt);have d1:=CM (QB bt) dr.2 hc
   have hW:aD ms (os.take (i+1))=(aD ms (os.take i)).flatMap λ pl=>(my ms os[i]).map λ k=>pl.set os[i].1.toNat k:=by
    rw [RD,QB bt];exact gA _ _ _
   have cS:=qd (os:=os.take i) hs.2 λ o ho=>bS o (mem_of_mem_take ho);rw [←cS] at d1;have b1:∀ z∈aD ms (os.take i),z.length=ms.length:=λ z hz=>zV hz;have hn:=hs.2 _ (gb hb.1.1 hb.1.2);have b6:=GJ ms os[i];have b7:=GI ms os[i];have a6:(my ms os[i]).length=(ms.getD os[i].1.toNat 0).toNat:=by unfold my;rw [length_map,length_range]
   have cT:H5 w=some (.tup [.int os[i].1,.int os[i].2]):=e5.at hw;generalize os[i]=o at *;obtain⟨o1,o2⟩:=o;generalize aD ms (os.take i)=fs at *;have d2:=dj (vals:=ms) hb.1.1 hb.1.2;have d3:=e5.at hp;dsimp only at *;generalize ms.getD o1.toNat 0=m at *;exists b1;exists hW;exists cS;exists b6;exists b7;exists a6;clear hi a9 bS hw dz d0 t4;simp! only [↓aA];rw [FH];refine⟨by omega,by omega,?_⟩;intro nl H6 d4 e6 h6;have d5:=e6.at b5;have d6:=e6.at cT;clear d3 cT;simp! only [-pZ];refine uF (λ σ' H'=>σ'=[some (V.ref p),some (V.ref q),some (V.ref r),some (V.int o1),some (V.int o2),some (V.ref nl),v6,v7]/\Ext H5 H'/\H' nl=some (.lst ((my ms (o1,o2)).map V.int))) (λ et hx=>?_) ?_
   ·rcases hb.2 with h|h
    ·have c0:=hx _ H6 ⟨rfl,e6,by rw [←b6 () h %[0|8]];exact h6⟩;clear hx;subst h;ac_rfl
    ·have c0:=hx _ (upd H6 nl (.lst ((my ms (o1,o2)).map V.int))) ⟨rfl,e6.put d4,ar⟩;rw [←b7 () h %[0|8]] at c0;clear hx;subst h;ac_rfl
   rintro _ H7 ⟨rfl,e7,h7⟩;have c1:=e7.at b5;have d7:=e5.trans e7;have c2:=cm.imp λ _ _ z=>bD.ext z e7;generalize my ms (o1,o2)=wl at *;clear b6 b7 h6 d5 b5 e6 d6 cm d2;ac_rfl;intro L H8 hL e8 d8;have d9:=e8.at c1;ac_rfl;refine cG (xs:=ys) (λ j σ H'=>∃ (v7:Option V) (aX:List V),σ=[some (.ref p),some (.ref q),some (.ref r),some (.int o1),some (.int o2),some (.ref nl),some (.ref L),v7]/\Ext H7 H'/\H' L=some (.lst aX)/\Al (bD H') ((fs.take j).flatMap λ pl=>wl.map λ k=>pl.set o1.toNat k) aX) ⟨_,[],rfl,e8,d8,by simpa using Al.nil⟩ (λ j σ H' _ ⟨_,_,_,e,_⟩=>e.at c1) ?_ ?_
   ·rintro j y _ H9 hj ⟨v7,aX,rfl,e9,h9,a7⟩;obtain⟨z,hz,w9,rfl,c3⟩:=cu (c2.imp λ _ _ z=>bD.ext z e9) hj;have ew:=b1 () z (QV hz);have b2:=qK fs (λ pl=>wl.map λ k=>pl.set o1.toNat k) j z hz;have a8:=e9.at h7;clear d9;simp! only [↓aA];have c4:Al (λ (k:Int) y=>y=.int k) wl (wl.map V.int):=⟨by rw [QE],λ i a y ha hy=>by rw [QL,ha] at hy;exact(Q2 hy).symm⟩;refine iJ wl (λ _=>true) (λ k x _=>x=.int k) (λ D k y H'=>∃ q,y=.ref q/\q ≠ D/\H' q=some (.tup ((z.set o1.toNat k).map V.int))) (dE (R:=λ k x _=>x=.int k) (λ _ _ _ _ h _=>h) a8 c4).1 (dE (R:=λ k x _=>x=.int k) (λ _ _ _ _ h _=>h) a8 c4).2 (λ D _ y H1 H2 ⟨q,h1,h2,h3⟩ e=>⟨q,h1,h2,e.at h3⟩) (λ D _ y H1 o ⟨q,h1,h2,h3⟩=>⟨q,h1,h2,by rw [ah h2];exact h3⟩) (aj (by rw [a6 ()];omega)) ?_ ?_
    ·intro D k y H' N1 N0 hk hD e ⟨ey,c5⟩ hx kc _;subst hx;have ea:=kc rfl;have eb:=e.at c3;clear kc hk c3 h9 a8 hj;simp! only [↓aV,↓aO];refine Ek hb.1.1 (by rw [QE];omega) ?_;intro a1 G1 ez f1 g1;ac_rfl;intro a2 G2 eB f2 g2;have c6:=f2.at g1;ac_rfl;rw [xF];refine⟨aj (by rw [Rf,QE];simp;omega),λ a3 G3 f3 g3=>?_⟩;have eH:=(f1.trans (f2.trans f3)).at eb;clear g1 c6 g2;ac_rfl;refine El %[0|8] (by rw [QE];omega) ?_;intro a4 G4 eM f4 g4;have eg:=f4.at g3;ac_rfl;rw [xF];refine⟨aj (by simp;omega),λ a5 G5 f5 g5=>?_⟩;have c7:=f1.trans (f2.trans (f3.trans (f4.trans f5)));refine ea _ G5 c7 ⟨a5,rfl,λ e=>?_,?_⟩
     ·rw [e,c7.at c5] at g5;cases g5
     ·rw [g5,←Hb z o1.toNat k %[0|8],show (o1+1).toNat=o1.toNat+1 by omega];simp
    ·intro D ws e0 hD cf ei aS;rw [jc] at aS;have b3:=cf.at h9;have fa:D ≠ L:=λ e=>by rw [e,h9] at hD;cases hD
     have c8:=a7.imp λ _ _ z=>bD.ext z cf;have ec:=u6 fs (λ pl=>wl.map λ k=>pl.set o1.toNat k) m.toNat (λ z _=>by rw [QE];exact a6 ()) (j+1);rw [b2,QX,QE] at ec;have fo:aX.length+ws.length<=sizeLine:=aj (by rw [a7.1,aS.1];omega);clear b2 h9;ac_rfl;refine⟨_,_,rfl,?_,rfl,?_⟩
     ·exact(e9.trans cf).put hL
     ·refine uH (c8.imp λ _ _ t=>t.upd b3) ⟨by rw [QE,aS.1],λ i a y ha hy=>?_⟩;rw [QL] at ha;obtain⟨k,hk,rfl⟩:=QJ.mp ha;obtain⟨q',h1,_,h3⟩:=aS.2 i k y hk hy;exact⟨q',h1,by rw [ah (λ e=>by rw [e,b3] at h3;cases h3)];exact h3⟩
   ·rintro _ H9 ⟨v7,aX,rfl,e9,h9,a7⟩;rw [c2.1,Rz] at a7;ac_rfl;exact⟨L,_,_,_,_,_,rfl,d7.trans e9,aX,h9,by rw [hW ()];exact a7⟩
  ·rintro _ H5 ⟨r,v3,v4,v5,v6,v7,rfl,e5,tt⟩;rw [al.1,QE,Rz] at tt;ac_rfl;exact kk r H5 e5 tt
def SzK(ms:List Int):Prop:=(ms.length<=3/\(∀ m∈ms,1<=m/\m<=6)/\ae ms<=60)\/(ms.length<=8/\(∀ m∈ms,1<=m/\m<=3)/\ae ms<=54)
def okP:List Int:=[1,2,3,4,6,8,9,12,16,18,24,27,32,36,48,54]
def Du{c s:Int}(hc:c∈okP)(h1:1<=s)(h3:s<=3)(h:c * s<=60):c * s∈okP:=by
 have key:∀ c∈okP,(c * 2<=60->c * 2∈okP)/\(c * 3<=60->c * 3∈okP):=by decide
 obtain⟨k2,k3⟩:=key c hc
 rcases (show s=1\/s=2\/s=3 by omega) with rfl|rfl|rfl
 ·rw [TM];exact hc
 ·exact k2 h
 ·exact k3 h
def Ll{c:Int}(hc:c∈okP):c<=54:=by
 have key:∀ c∈okP,c<=54:=by decide
 exact key c hc
def SzI(mu ms:List Int)(i:Nat):Prop:=ms.length=i/\ae ms<=60/\((∀ m∈ms,1<=m/\m<=6)/\((∀ m∈mu,1<=m/\m<=3)->(∀ m∈ms,1<=m/\m<=3)/\ae ms∈okP))
abbrev zK(K:PySem.W.Frag)(a:Addr)(ns:List Int)(p:Addr)(H:Hp)(Q:VK)(E:XK):Prop:=p=a/\SqL K H a (ns.map V.int)/\ns.length<=63/\∀ (ms:List Int) (r:Addr) (H':Hp),Ext H H'->H' r=some (.lst (ms.map V.int))->SzK ms->Q (.ref r) H'
def FR(K:W.Frag)(a:Addr)(ns:List Int):Sp:=λ vs H Q E=>∃ (p:Addr),vs=[.ref p,.int 60,.bl true]/\(zK K a ns p H Q E)
def JG(K:W.Frag)(a:Addr)(ns:List Int)(p:Addr)(H:Hp)(Q:VK)(E:XK):FR K a ns [.ref p,.int 60,.bl true] H Q E=(zK K a ns p H Q E):=lX (f:=λ (p:Addr)=>[.ref p,.int 60,.bl true]) (λ _ _ h=>by cases h;exact rfl) p
def pd(T:Tx K mg t)(a:Addr)(ns:List Int):bj P w K mg base CX0 2 t.a_Bt t.d_Bt ["_law_script", "_law_most_here", "_law_wide"] (FR K a ns):=by
 have G_Eb:=%[er|46] a ns;have G_Bf:=%[cZ|46];refine T.F_Bt.ok aM (λ _ _ _ _ h=>lU h λ _=>rfl) (λ c A o s H vs Q E hr h=>?_)
 ·obtain⟨_,rfl,rfl,hS,hl,kk⟩:=h;rename_i a;refine⟨_,%[%[3,aM,%[bY,%[%[%[0|2],%[%[0|2],%[%[0|2],%[%[0|2],%[%[0|2],%[%[0|2],%[%[0|2],%[%[0|2]|1]|1]|1]|1]|1]|1]|1]|1]|20],%[Eb,%[%[0|0],%[%[0|2],%[%[0|2]|1]|1]|1]|3],(λ _ _=>rfl)|13]|4],%[%[4,aM,%[%[%[0|2],%[%[0|2],%[%[0|2],%[%[0|2],%[%[0|2],%[%[0|2],%[%[0|2],%[%[0|2]|1]|1]|1]|1]|1]|1]|1]|1]|20]|4],%[%[(PW.pt (@mD _ _ _ _ _ _ _ %[%[2|0],(by intros;rfl)|25] (@kl _ _ _ _ %[(cy hr.units),%[Eb,%[%[0|0],%[%[0|2],%[%[0|2]|1]|1]|1]|3],%[0|2],(au _)|14]))),%[%[3,aM,%[bG,%[0|2],%[Eb,%[%[0|0],%[%[0|2],%[%[0|2]|1]|1]|1]|3]|11]|4],%[%[4,aM,%[%[%[0|2],%[%[0|2],%[%[0|2],%[%[0|2],%[%[0|2],%[%[0|2],%[%[0|2],%[%[0|2]|1]|1]|1]|1]|1]|1]|1]|1]|20]|4]|10]|9],(@aq _)|17],%[%[5,aM,%[(@cx _)|20]|4],%[%[6,aM,%[0|2]|4],%[%[QT,rfl,%[%[Bf,%[%[Eb,%[%[0|0],%[%[0|2],%[%[0|2]|1]|1]|1]|3],%[%[0|2],%[%[3|0]|1]|1]|1]|3]|18],%[7,aM|5],%[%[8,aM,%[bY,%[4|0],%[7|0],(λ _ _=>rfl)|13]|4],%[%[%[si,%[cP,%[6|0],%[8|0]|11],%[1|0],(au _)|14],%[%[8,aM,%[0|2]|4]|10],(@aq _)|17],%[%[6,aM,%[cP,%[6|0],%[8|0]|11]|4],%[%[%[Q3,RG,RF,b8,%[5|0],%[%[8|0]|1],∅,∅,∅,∅,∅|33],∅|19]|10]|9]|9]|9],(by intros;rfl)|21],%[%[%[5|0]|12]|10]|9]|9]|9]|9]|9]|9],?_⟩;rw [show aw ["_law_script", "_law_most_here", "_law_wide", "_law_many", "_law_menu", "_law_sizes_here", "_law_count", "_law_digit", "_law_size"] [.ref a,.int 60,.bl true]=[some (.ref a),some (.int 60),some (.bl true),none,none,none,none,none,none] from rfl];clear G_Eb G_Bf;exists kk;ac_rfl;intro q1 H1 de e1 h1;have b3:=e1.2 K a _ hS;clear de;ac_rfl;rw [bz];refine⟨b3,hl,⟨by decide,by decide⟩,by decide,λ d d0 d1=>?_⟩;ac_rfl;refine iN (λ j=>0<=j/\j<=3) d0 d1 (λ v hv=>?_) λ mn b4=>?_
  ·simp only [Q1,QR,Rm] at hv
   rcases hv with rfl|rfl|rfl|rfl|rfl|rfl|rfl|rfl<;>exact⟨_,rfl,by decide⟩
  clear h1;ac_rfl;intro q2 H2 dy e2 h2;have a8:=e2.2 K a _ b3;clear dy;simp! only [-pZ];refine uF (λ σ' H'=>∃ (mn:Int) (q:Addr) (mu:List Int),σ'=[some (.ref a),some (.int 60),some (.bl true),some (.int mn),some (.ref q),none,none,none,none]/\Ext H2 H'/\H' q=some (.lst (mu.map V.int))/\mu.length=8/\0<=mn/\mn<=8/\((mn<=3/\∀ m∈mu,1<=m/\m<=6)\/∀ m∈mu,1<=m/\m<=3)) (λ d4 hn=>?_) ?_
  ·exists hn;ac_rfl;rw [bz];refine⟨a8,hl,⟨by decide,by decide⟩,by decide,λ g g0 g1=>?_⟩
   by_cases hg:g=1
   ·ac_rfl;rw [bz];refine⟨a8,hl,⟨by decide,by decide⟩,by decide,λ x x0 x1=>?_⟩;ac_rfl;intro q3 H3 d5 e3 h3;have dz:=hn () [some (.ref a),some (.int 60),some (.bl true),some (.int (4+x)),some (.ref q3),none,none,none,none] H3 ⟨_,q3,[1,2,3,2,1,2,3,2],rfl,e3,h3,rfl,by omega,by omega,.inr ⋯⟩;clear hn;ac_rfl
   ·have dz:=hn () [some (.ref a),some (.int 60),some (.bl true),some (.int mn),some (.ref q2),none,none,none,none] H2 ⟨_,q2,[2,3,4,2,5,1,3,6],rfl,Ext.refl _,h2,rfl,b4.1,by omega,.inl ⟨b4.2,by decide⟩⟩;clear hn;ac_rfl
  rintro _ H3 ⟨mn,q,mu,rfl,e3,h3,a9,cf,cS,b5⟩;have cT:=e3.2 K a _ a8;clear h2 b4;ac_rfl;intro r H4 c2 e4 h4;have c3:=e4.2 K a _ cT;have b2:=e4.at h3;clear h3;ac_rfl;rw [bz];refine⟨c3,hl,⟨by decide,by decide⟩,by decide,λ c c0 c1=>?_⟩;ac_rfl;rw [jy];refine⟨by decide,by decide,cf,cS,λ ds dr H5 b6 e5 h5 bt c4=>?_⟩;have a5:=e5.at h4;have aX:=e5.at b2;have c5:q ≠ r:=λ z=>by rw [z,a5] at aX;have:=RS List.length (HO.lst.inj (Q2 aX));rw [QE,a9] at this;simp at this
  have c6:dr ≠ r:=λ z=>by rw [z,h4] at b6;cases b6
  have c7:=e1.trans (e2.trans (e3.trans (e4.trans e5)));have c8:H r=none:=(e1.trans (e2.trans e3)).free c2;exists bt;exists a9;exists b5;exists c4;clear h4 b2 b6 e1 e2 e3 e4 e5 b3 a8 cT c3;ac_rfl;refine cG (xs:=ds.map V.int) (λ i σ H'=>∃ (ms:List Int) (v7 v8:Option V),σ=[some (.ref a),some (.int 60),some (.bl true),some (.int mn),some (.ref q),some (.ref r),some (.int (ae ms)),v7,v8]/\Ext H H'/\H' q=some (.lst (mu.map V.int))/\H' dr=some (.lst (ds.map V.int))/\H' r=some (.lst (ms.map V.int))/\SzI mu ms i) ⟨[],none,none,rfl,c7,aX,h5,a5,⟨rfl,by decide,λ _ h=>absurd h QR,λ _=>⟨λ _ h=>absurd h QR,by decide⟩⟩⟩ (λ i σ H' _ ⟨_,_,_,_,_,_,h,_⟩=>h) ?_ ?_
  ·rintro i y _ H6 hi ⟨ms,v7,v8,rfl,e6,q6,d6,h6,⟨a3,aS,a6,a4⟩⟩;rw [QL] at hi;obtain⟨g,hg,rfl⟩:=QJ.mp hi;obtain⟨g0,g8⟩:=c4 () g (QV hg);have d2:i < ds.length:=(QD.mp hg).1;have d3:=dj (vals:=mu) g0 (by rw [a9 ()];omega)
   have bS:mu.getD g.toNat 0∈mu:=by
    have:g.toNat < mu.length:=by rw [a9 ()];omega
    rw [List.getD,QB this];exact Sd this
   have b1:1<=mu.getD g.toNat 0/\mu.getD g.toNat 0<=6:=by
    rcases b5 () with h|h
    ·exact h.2 _ bS
    ·have:=h _ bS;omega
   have b7:(∀ m∈mu,1<=m/\m<=3)->mu.getD g.toNat 0<=3:=λ h=>(h _ bS).2;generalize mu.getD g.toNat 0=z at d3 b1 b7;have p1:=aW ms λ m hm=>(a6 m hm).1;have cm:kd (ae ms) z:=.inr ⟨by omega,by omega⟩;have d7:ms.length < sizeLine:=eU (by have:=bt ();omega);have a7:∀ s:Int,ae (ms++[s])=ae ms * s:=λ s=>by rw [aU];show _ * (s * 1)=_;rw [TM]
   have fin:∀ s:Int,1<=s->s<=6->((∀ m∈mu,1<=m/\m<=3)->s<=3)->ae ms * s<=60->SzI mu (ms++[s]) (i+1):=by
    intro s s1 s6 s3 hs;refine⟨by rw [QX,a3];rfl,by rw [a7];exact hs,λ m hm=>?_,λ hw=>⟨λ m hm=>?_,by rw [a7];exact Du (a4 hw).2 s1 (s3 hw) hs⟩⟩
    ·rcases Q6.mp hm with h|h
     ·exact a6 m h
     ·rw [QF.mp h];exact⟨s1,s6⟩
    ·rcases Q6.mp hm with h|h
     ·exact(a4 hw).1 m h
     ·rw [QF.mp h];exact⟨s1,s3 hw⟩
   exists fin;exists a7;exists b7;exists b1;exists a4;exists a6;exists a3;clear hi hg c2 h5 a5 aX c7 hS p1 d2 g0 g8 c0 c1 cf cS d0 d1 bS
   by_cases hbig:60 < ae ms * z
   ·have d8:kd (ae ms) 1:=.inr ⟨by decide,by decide⟩;have f1:=λ (_:Unit)=>fin () 1 ⋯ ⋯ (λ _=>by decide) (by rw [TM];exact aS);clear fin;simp! only [↓aA];refine⟨ms++[1],_,_,by rw [a7 ()],e6.put c8,by rw [ah c5];exact q6,by rw [ah c6];exact d6,by rw [RA];rfl,f1 ()⟩
   ·have hle:ae ms * z<=60:=by omega
    have f1:=λ (_:Unit)=>fin () z (b1 ()).1 (b1 ()).2 (b7 ()) hle;clear fin;simp! only [↓aA];refine⟨ms++[z],_,_,by rw [a7 ()],e6.put c8,by rw [ah c5];exact q6,by rw [ah c6];exact d6,by rw [RA];rfl,f1 ()⟩
  ·rintro _ H6 ⟨ms,v7,v8,rfl,e6,q6,d6,h6,⟨a3,aS,a6,a4⟩⟩;rw [QE] at a3
   have hsz:SzK ms:=by
    rcases b5 () with h|h
    ·exact .inl ⟨by have:=bt ();omega,a6,aS⟩
    ·exact .inr ⟨by have:=bt ();omega,(a4 h).1,Ll (a4 h).2⟩
   have k':=kk () ms r H6 e6 h6 hsz;clear kk hsz;ac_rfl
def mQ{l1 l2:List Int}(h:l1.Perm l2):ae l1=ae l2:=by
 induction h with
 | nil=>rfl
 | cons x _ ih=>show x * _=x * _;rw [ih]
 | swap x y l=>show y * (x * ae l)=x * (y * ae l);rw [←R1,←R1,RW y x]
 | trans _ _ i1 i2=>exact i1.trans i2
def ja(ms:List Int)(v:Int):Int:=ms.getD v.toNat 0
def uO(ms:List Int):((List.range ms.length).map λ (i:Nat)=>(i:Int)).map (ja ms)=ms:=by
 rw [Rq];apply UO;intro i;rw [QL]
 by_cases hi:i < ms.length
 ·rw [Ux hi,QB hi]
  show some (ms.getD ((i:Int)).toNat 0)=_
  rw [QO,List.getD,QB hi];rfl
 ·rw [R8 (by rw [Rb];omega),R8 %[0|8]];rfl
def og:∀ (ms ps:List Int) (x:Nat) (p:Int),ps.length=ms.length->x < ms.length->ps.getD x 0=0->eR ms (ps.set x p)=eR ms ps+(ms.getD x 0 - 1) * (p.natAbs:Int)
 | [],_,_,_,_,h,_=>by simp at h
 | _::_,[],_,_,h,_,_=>by simp at h
 | m::ms,q::ps,0,p,hl,hx,h0=>by
  have aS:q=0:=h0;subst aS
  show (m - 1) * (p.natAbs:Int)+eR ms ps=(m - 1) * ((0:Int).natAbs:Int)+eR ms ps+(m - 1) * (p.natAbs:Int)
  rw [show (((0:Int).natAbs:Nat):Int)=0 from rfl,Int.mul_zero];omega
 | m::ms,q::ps,x+1,p,hl,hx,h0=>by
  have ih:=og ms ps x p (by simpa using hl) (by simpa using hx) (by simpa using h0)
  show (m - 1) * (q.natAbs:Int)+eR ms (ps.set x p)=(m - 1) * (q.natAbs:Int)+eR ms ps+(ms.getD x 0 - 1) * (p.natAbs:Int)
  rw [ih];omega
def kC:∀ ms:List Int,eR ms (List.replicate ms.length 0)=0
 | []=>rfl
 | m::ms=>by
  show (m - 1) * (((0:Int).natAbs:Nat):Int)+eR ms (List.replicate ms.length 0)=0
  rw [kC ms,show (((0:Int).natAbs:Nat):Int)=0 from rfl,Int.mul_zero];rfl
structure iE(ms ls ps:List Int)(u B:Int):Prop where
 len:ps.length=ms.length
 sub:∀ x∈ls,0<=x/\x < (ms.length:Int)
 nd:ls.Nodup
 lle:ls.length<=ms.length
 zer:∀ x∈ls,ps.getD x.toNat 0=0
 u1:1<=u
 c:∃ c:Int,1<=c/\ae (ls.map (ja ms)) * c=ae ms
 ub:u * ae (ls.map (ja ms))<=(2+((ms.length:Int) - ls.length)) * ae ms
 sp:eR ms ps<=u
 pb:∀ p∈ps,(p.natAbs:Int)<=B
def iE.one{ms ls ps:List Int}{u B:Int}(h:iE ms ls ps u B)(h1:∀ m∈ms,(1:Int)<=m):∀ m∈ls.map (ja ms),(1:Int)<=m:=λ m hm=>by
 obtain⟨x,hx,rfl⟩:=QG.mp hm;have:=h.sub x hx;exact h1 _ (gb this.1 this.2)
def iE.ule{ms ls ps:List Int}{u B:Int}(h:iE ms ls ps u B)(h1:∀ m∈ms,(1:Int)<=m):u<=(2+((ms.length:Int) - ls.length)) * ae ms:=by
 have q1:=aW _ (h.one h1);have:=Rx q1 (show 0<=u by have:=h.u1;omega);have:=h.ub;omega
def iE.step{ms ls es ps:List Int}{u B x b p:Int}(h:iE ms ls ps u B)(h1:∀ m∈ms,(1:Int)<=m)(hp:(x::es).Perm ls)(a7:0<=b)(a5:b<=1)(aX:(p.natAbs:Int)=u)(hB:((ms.length:Int)+1) * ae ms<=B):iE ms es (ps.set x.toNat p) (u * ja ms x+b) B:=by
 have a3:x∈ls:=hp.mem_iff.mp QP;have hx:=h.sub x a3;have a4:(x::es).Nodup:=hp.nodup_iff.mpr h.nd;have a8:es.length+1=ls.length:=by rw [←hp.length_eq];rfl
 have aS:∀ y∈es,y∈ls:=λ y hy=>hp.mem_iff.mp (QM _ hy)
 have hq:ae (ls.map (ja ms))=ja ms x * ae (es.map (ja ms)):=by
  rw [←mQ (hp.map (ja ms))];rfl
 have s1:1<=ja ms x:=h1 _ (gb hx.1 hx.2)
 have q1:1<=ae (es.map (ja ms)):=aW _ λ m hm=>by
  obtain⟨y,hy,rfl⟩:=QG.mp hm;have:=h.sub y (aS y hy);exact h1 _ (gb this.1 this.2)
 obtain⟨c,c1,hc⟩:=h.c;have u1:=h.u1
 have us:u<=u * ja ms x:=by
  have:=Rx s1 (show 0<=u by omega);omega
 have hle:=h.lle;have hP:=aW ms h1;refine⟨by rw [SG];exact h.len,λ y hy=>h.sub y (aS y hy),(Sb.mp a4).2,by omega,λ y hy=>?_,by omega,⟨c * ja ms x,?_,?_⟩,?_,?_,λ q hq=>?_⟩
 ·have a9:y ≠ x:=λ e=>(Sb.mp a4).1 (e ▸ hy);have bt:=h.sub y (aS y hy);have:=h.zer y (aS y hy);rw [List.getD,Ur %[0|8]];exact this
 ·have:=Sm c1 s1 ⋯ %[0|8];omega
 ·rw [←hc,hq,RW c,RW (ja ms x) (ae _),R1]
 ·have e1:(u * ja ms x+b) * ae (es.map (ja ms))=u * ae (ls.map (ja ms))+b * ae (es.map (ja ms)):=by rw [hq,So,R1]
  have hQ:ae (es.map (ja ms))<=ae ms:=by
   have w1:=QW s1 (show 0<=ae (es.map (ja ms)) by omega);have w2:=Rx c1 (show 0<=ja ms x * ae (es.map (ja ms)) by omega);rw [hq] at hc;omega
  have bS:=QW a5 (show 0<=ae (es.map (ja ms)) by omega);have b1:=h.ub
  have e2:(2+((ms.length:Int) - (es.length:Int))) * ae ms=(2+((ms.length:Int) - (ls.length:Int))) * ae ms+ae ms:=by
   rw [show 2+((ms.length:Int) - (es.length:Int))=2+((ms.length:Int) - (ls.length:Int))+1 by omega,So (2+((ms.length:Int) - (ls.length:Int))) 1,Uz]
  rw [e1,e2];omega
 ·have hz:=h.zer x a3;rw [og ms ps x.toNat p h.len %[0|8] hz,aX];have b2:=h.sp
  have e:(ms.getD x.toNat 0 - 1) * u=u * ja ms x - u:=by
   show (ja ms x - 1) * u=_
   rw [Int.sub_mul,Uz,RW]
  rw [e];omega
 ·rcases List.mem_or_eq_of_mem_set hq with hq|rfl
  ·exact h.pb q hq
  ·rw [aX];have a6:=h.ule h1;have:(2+((ms.length:Int) - (ls.length:Int))) * ae ms<=((ms.length:Int)+1) * ae ms:=QW %[0|8] %[0|8];omega
def iE.init{ms:List Int}{u B:Int}(h1:∀ m∈ms,(1:Int)<=m)(u1:1<=u)(u2:u<=2)(hB:0<=B):iE ms ((List.range ms.length).map λ (i:Nat)=>(i:Int)) (List.replicate ms.length 0) u B:=by
 have hP:=aW ms h1;refine⟨R7,λ x hx=>?_,?_,by rw [QE,Rb];exact QK _,λ x hx=>?_,u1,⟨1,by decide,by rw [uO,TM]⟩,?_,by rw [kC];omega,λ p hp=>?_⟩
 ·obtain⟨i,hi,rfl⟩:=QG.mp hx;have:=Rj.mp hi;omega
 ·refine List.Pairwise.map _ (λ a b aS=>?_) Uc;omega
 ·rw [List.getD,Td]
  split<;>rfl
 ·rw [uO,QE,Rb];have:=QW u2 (show 0<=ae ms by omega);rw [show 2+((ms.length:Int) - (ms.length:Int))=2 by omega];exact this
 ·rw [List.eq_of_mem_replicate hp];exact hB
def PcK(ms ps:List Int):Prop:=ps.length=ms.length/\∃ S B:Int,eR ms ps<=S/\(∀ p∈ps,(p.natAbs:Int)<=B)/\6<=B/\0<=S/\S+mz ms * (B+2)<=3960
def SzK.pos{ms:List Int}(h:SzK ms):(∀ m∈ms,1<=m/\m<=6)/\ms.length<=8/\ae ms<=60:=by
 rcases h with h|h
 ·exact⟨h.2.1,by omega,h.2.2⟩
 ·exact⟨λ m hm=>by have:=h.2.1 m hm;omega,h.1,by omega⟩
def SzK.bounds{ms:List Int}(h:SzK ms):∃ B:Int,((ms.length:Int)+1) * ae ms<=B/\6<=B/\(2+(ms.length:Int)) * ae ms+mz ms * (B+2)<=3960/\0<=mz ms/\mz ms<=15:=by
 have h1:∀ m∈ms,(1:Int)<=m:=λ m hm=>(h.pos.1 m hm).1;have hP:=aW ms h1;have nn:=yB h1
 rcases h with ⟨h3,h6,hp⟩|⟨h8,h3,hp⟩
 ·have t:=yC (k:=5) ⋯ ms h6;have hl:(ms.length:Int)<=3:=by omega
  have m1:=Sm (show (ms.length:Int)+1<=4 by omega) hp %[0|8] ⋯;have m2:=Sm (show 2+(ms.length:Int)<=5 by omega) hp %[0|8] ⋯;exact⟨240,by omega,by decide,by omega,nn,by omega⟩
 ·have t:=Ab h3 %[0|8];have hl:(ms.length:Int)<=8:=by omega
  have m1:=Sm (show (ms.length:Int)+1<=9 by omega) hp %[0|8] ⋯;have m2:=Sm (show 2+(ms.length:Int)<=10 by omega) hp %[0|8] ⋯;exact⟨486,by omega,by decide,by omega,nn,by omega⟩
def iE.done{ms ps:List Int}{u B:Int}(h:iE ms [] ps u B)(h1:∀ m∈ms,(1:Int)<=m)(hB:6<=B)(hb:(2+(ms.length:Int)) * ae ms+mz ms * (B+2)<=3960):PcK ms ps:=by
 have hu:=h.ule h1;have hP:=aW ms h1;rw [show 2+((ms.length:Int) - (([]:List Int).length:Int))=2+(ms.length:Int) by simp] at hu;have:=Sl (show 0<=2+(ms.length:Int) by omega) (show 0<=ae ms by omega);exact⟨h.len,(2+(ms.length:Int)) * ae ms,B,by have:=h.sp;omega,h.pb,hB,this,hb⟩
def BD:List Int->List Int->Prop
 | [],[]=>True
 | s::ms,d::ds=>(d.natAbs:Int)<=s - 1/\BD ms ds
 | _,_=>False
def BD.len:∀ {ms d:List Int},BD ms d->d.length=ms.length
 | [],[],_=>rfl
 | [],_::_,h=>h.elim
 | _::_,[],h=>h.elim
 | _::ms,_::d,h=>RS (· + 1) (BD.len h.2)
def dW(x p:Int)(xs ps:List Int):eQ (x::xs) (p::ps)=x * p+eQ xs ps:=by
 unfold eQ;rw [zipWith_cons_cons,sum_cons]
def vb:∀ {ms d ps:List Int},BD ms d->ps.length=ms.length->((eQ d ps).natAbs:Int)<=eR ms ps
 | [],[],[],_,_=>by decide
 | [],[],_::_,_,h=>by simp at h
 | [],_::_,_,h,_=>h.elim
 | _::_,[],_,h,_=>h.elim
 | _::_,_::_,[],_,h=>by simp at h
 | s::ms,x::d,p::ps,h,hl=>by
  have ih:=vb h.2 (ps:=ps) (by simpa using hl);rw [dW]
  show _<=(s - 1) * (p.natAbs:Int)+eR ms ps
  have h1:((x * p).natAbs:Int)<=(s - 1) * (p.natAbs:Int):=by
   rw [Int.natAbs_mul,TL];exact QW h.1 %[0|8]
  omega
def zc:∀ {d ps:List Int}{a:Nat}{p:Int},d.length=ps.length->a < ps.length->ps.getD a 0=0->eQ d (ps.set a p)=eQ d ps+d.getD a 0 * p
 | [],[],_,_,_,h,_=>by simp at h
 | [],_::_,_,_,h,_,_=>by simp at h
 | _::_,[],_,_,h,_,_=>by simp at h
 | x::d,q::ps,0,p,hl,ha,h0=>by
  have aS:q=0:=h0;subst aS;rw [List.set_cons_zero,dW,dW,Int.mul_zero]
  show x * p+eQ d ps=0+eQ d ps+x * p
  omega
 | x::d,q::ps,a+1,p,hl,ha,h0=>by
  have ih:=zc (d:=d) (ps:=ps) (a:=a) (p:=p) (by simpa using hl) (by simpa using ha) (by simpa using h0);rw [List.set_cons_succ,dW,dW,ih]
  show x * q+(eQ d ps+d.getD a 0 * p)=x * q+eQ d ps+d.getD a 0 * p
  omega
structure l9(ms ls ps:List Int)(u:Int):Prop where
 sps:eR ms ps < u
 ij:∀ d,BD ms d->eQ d ps=0->∀ a:Nat,a < ms.length->¬ (a:Int)∈ls->d.getD a 0=0
def l9.init{ms:List Int}{u:Int}(u1:1<=u):l9 ms ((List.range ms.length).map λ (i:Nat)=>(i:Int)) (List.replicate ms.length 0) u:=
 ⟨by rw [kC];omega,λ d _ _ a ha hn=>absurd (QG.mpr ⟨a,Rj.mpr ha,rfl⟩) hn⟩
def l9.step{ms ls es ps:List Int}{u B x b p:Int}(h:iE ms ls ps u B)(hJ:l9 ms ls ps u)(h1:∀ m∈ms,(1:Int)<=m)(hp:(x::es).Perm ls)(a4:0<=b)(aX:(p.natAbs:Int)=u):l9 ms es (ps.set x.toNat p) (u * ja ms x+b):=by
 have a3:x∈ls:=hp.mem_iff.mp QP;have hx:=h.sub x a3;have hz:=h.zer x a3;have hl:=h.len;have hs:=hJ.sps;have hu:=h.u1;refine⟨?_,λ d hd h0 a ha hn=>?_⟩
 ·rw [og ms ps x.toNat p hl %[0|8] hz,aX]
  have e:(ms.getD x.toNat 0 - 1) * u=u * ja ms x - u:=by
   show (ja ms x - 1) * u=_
   rw [Int.sub_mul,Uz,RW]
  rw [e];omega
 ·rw [zc (by rw [hd.len,hl]) %[0|8] hz] at h0;have hb:=vb hd hl
  have aS:d.getD x.toNat 0=0:=by
   apply Classical.byContradiction;intro a5
   have:u<=((d.getD x.toNat 0 * p).natAbs:Int):=by
    rw [Int.natAbs_mul,TL,aX];have:=QW (show (1:Int)<=((d.getD x.toNat 0).natAbs:Int) by omega) (show 0<=u by omega);omega
   omega
  by_cases hax:(a:Int)=x
  ·rw [←hax,QO] at aS;exact aS
  ·rw [aS,SK] at h0;refine hJ.ij d hd %[0|8] a ha λ hm=>?_
   rcases Q1.mp (hp.mem_iff.mpr hm) with e|e
   ·exact hax e
   ·exact hn e
def Cq(ms ps:List Int):Prop:=∀ d,BD ms d->eQ d ps=0->∀ a:Nat,a < ms.length->d.getD a 0=0
def l9.done{ms ps:List Int}{u:Int}(h:l9 ms [] ps u):Cq ms ps:=λ d hd h0 a ha=>h.ij d hd h0 a ha (λ z=>by cases z)
def yZ:∀ {x y ps:List Int},x.length=ps.length->y.length=ps.length->eQ (List.zipWith (λ a b=>a - b) x y) ps=eQ x ps - eQ y ps
 | [],[],[],_,_=>rfl
 | _::_,_,[],h,_=>by simp at h
 | _,_::_,[],_,h=>by simp at h
 | [],_,_::_,h,_=>by simp at h
 | _,[],_::_,_,h=>by simp at h
 | a::x,b::y,p::ps,hx,hy=>by
  have ih:=yZ (x:=x) (y:=y) (ps:=ps) (by simpa using hx) (by simpa using hy);rw [R9,dW,dW,dW,ih,Int.sub_mul];omega
def BD.sub:∀ {ms x y:List Int},InR ms x->InR ms y->BD ms (List.zipWith (λ a b=>a - b) x y)
 | [],[],[],_,_=>trivial
 | [],_::_,_,h,_=>h.elim
 | [],_,_::_,_,h=>h.elim
 | _::_,[],_,h,_=>h.elim
 | _::_,_,[],_,h=>h.elim
 | m::ms,a::x,b::y,hx,hy=>⟨by have:=hx.1;have:=hy.1;show ((a - b).natAbs:Int)<=m - 1;omega,BD.sub hx.2 hy.2⟩
def GD{ms ps:List Int}(hl:ps.length=ms.length):(ms.zip ps).map (λ a=>a.2)=ps:=by
 rw [show (λ a:Int × Int=>a.2)=Prod.snd from rfl,List.map_snd_zip %[0|8]]
def uI{ms ps:List Int}(hl:ps.length=ms.length):(ms.zip ps).map (λ a=>a.1)=ms:=by
 rw [show (λ a:Int × Int=>a.1)=Prod.fst from rfl,Ud %[0|8]]
def Cq.nodup{ms ps:List Int}(h:Cq ms ps)(hs:∀ n∈ms,1<=n/\n<=1000000000)(hl:ps.length=ms.length)(f:Int):(af f (ms.zip ps)).Nodup:=by
 have one:∀ a∈ms.zip ps,(1:Int)<=a.1:=λ a ha=>(hs a.1 (of_mem_zip (show (a.1,a.2)∈ms.zip ps from ha)).1).1;have hlen:=aF f (ms.zip ps) one;rw [uI hl] at hlen;unfold List.Nodup;rw [List.pairwise_iff_getElem];intro i j hi hj aX e;have a:=jv one (getElem?_eq_getElem hi);have b:=jv one (getElem?_eq_getElem hj);rw [uI hl,GD hl] at a b;rw [a,b] at e;have zi:InR ms (ao ms (i:Int)):=InR.split ms i hs;have zj:InR ms (ao ms (j:Int)):=InR.split ms j hs;have hd:=yZ (x:=ao ms (i:Int)) (y:=ao ms (j:Int)) (ps:=ps) (by rw [br,hl]) (by rw [br,hl]);have aS:=h _ (BD.sub zi zj) %[0|8]
 have heq:ao ms (i:Int)=ao ms (j:Int):=by
  refine T2 (by rw [br,br]) λ n h1 h2=>?_;have hn:n < ms.length:=by rw [br] at h1;exact h1
  have:=aS n hn;rw [Rh,List.getElem?_zipWith,QB h1,QB h2] at this;have:(ao ms (i:Int))[n] - (ao ms (j:Int))[n]=0:=this;omega
 have:=qi (λ n hn=>(hs n hn).1) %[0|8] %[0|8] %[0|8] %[0|8] heq;omega
abbrev vy(K:PySem.W.Frag)(a:Addr)(ns:List Int)(p:Addr)(l:Addr)(H:Hp)(Q:VK)(E:XK):Prop:=p=a/\SqL K H a (ns.map V.int)/\ns.length<=63/\∃ ms:List Int,H l=some (.lst (ms.map V.int))/\SzK ms/\∀ (ps:List Int) (r:Addr) (H':Hp),Ext H H'->H' r=some (.lst (ps.map V.int))->PcK ms ps->Cq ms ps->Q (.ref r) H'
def xP(K:W.Frag)(a:Addr)(ns:List Int):Sp:=λ vs H Q E=>∃ (p:Addr) (l:Addr),vs=[.ref p,.ref l]/\(vy K a ns p l H Q E)
def ES(K:W.Frag)(a:Addr)(ns:List Int)(p:Addr)(l:Addr)(H:Hp)(Q:VK)(E:XK):xP K a ns [.ref p,.ref l] H Q E=(vy K a ns p l H Q E):=gN (f:=λ (p:Addr) (l:Addr)=>[.ref p,.ref l]) (λ _ _ _ _ h=>by cases h;exact⟨rfl,rfl⟩) p l
def rE(T:Tx K mg t)(a:Addr)(ns:List Int):bj P w K mg base CX0 2 t.a_Ec t.d_Ec ["_law_script", "_law_sizes_here"] (xP K a ns):=by
 have G_Eb:=%[er|46] a ns;have G_Bf:=%[cZ|46];refine T.F_Ec.ok bB (λ _ _ _ _ h=>gO h λ _ _=>rfl) (λ c A o s H vs Q E hr h=>?_)
 ·obtain⟨_,l,rfl,rfl,hS,hl,ms,hm,hsz,kk⟩:=h;rename_i a;refine⟨_,%[%[2,bB,%[bG,%[0|2],%[Eb,%[%[0|0],%[%[0|2],%[%[0|2]|1]|1]|1]|3]|11]|4],%[%[3,bB,%[Eb,%[%[0|0],%[%[0|2],%[%[0|2]|1]|1]|1]|3]|4],%[%[4,bB,%[Bf,%[%[Eb,%[%[0|0],%[%[0|2],%[%[0|2]|1]|1]|1]|3],%[%[0|2],%[%[len,ak,%[%[1|0]|1]|6]|1]|1]|1]|3]|4],%[%[5,bB,%[sR,%[%[%[0|2]|1]|20],%[len,ak,%[%[1|0]|1]|6]|11]|4],%[%[6,bB,(@gm _ _ _ _ _ _ _ rfl ∅ T.z_list ∅ T.z_range %[%[len,ak,%[%[1|0]|1]|6]|1] ∅ ∅ ∅)|4],%[(@uT _ _ _ _ _ _ QT %[(c9 hr.units),%[6|0],%[(@cx _)|20],(au _)|14] %[%[7,bB,%[Q3,PySem.F.slot_list_pop,PySem.F.type_list_pop,Az,%[6|0],%[%[pY,%[3|0],%[len,ak,%[%[6|0]|1]|6]|11]|1],∅,∅,∅,∅,∅|33]|4],%[%[3,bB,%[kn,%[3|0],%[bG,%[len,ak,%[%[6|0]|1]|6],%[0|2]|11]|11]|4],%[(@pU _ _ _ _ _ _ %[cP,%[2|0],%[bY,%[%[%[0|2],%[%[fZ,%[0|2]|43],%[%[0|2],%[%[fZ,%[0|2]|43]|1]|1]|1]|1]|20],%[bY,%[4|0],%[7|0],(λ _ _=>rfl)|13],(λ _ _=>rfl)|13]|11] (@uB _ _ _ _ _ _ _ %[5|0] %[7|0] jU (by intros;rfl)) ∅ ∅ ∅),%[%[2,bB,%[bG,%[cP,%[2|0],%[bY,%[1|0],%[7|0],(λ _ _=>rfl)|13]|11],%[kn,%[bY,%[4|0],%[7|0],(λ _ _=>rfl)|13],%[0|2]|11]|11]|4]|10]|9]|9]|9]),%[%[%[5|0]|12]|10]|9]|9]|9]|9]|9]|9],?_⟩;rw [show aw ["_law_script", "_law_sizes_here", "_law_unit", "_law_turn", "_law_signs", "_law_paces", "_law_left", "_law_axis"] [.ref a,.ref l]=[some (.ref a),some (.ref l),none,none,none,none,none,none] from rfl];clear G_Eb G_Bf;have h8:=hsz.pos.2.1;have one:∀ m∈ms,(1:Int)<=m:=λ m hm=>(hsz.pos.1 m hm).1;have m6:∀ m∈ms,m<=6:=λ m hm=>(hsz.pos.1 m hm).2;have ec:=hsz.pos.2.2;obtain⟨B,c7,eg,b3,_,_⟩:=hsz.bounds;exists kk;exists one;exists m6;exists c7;exists b3;have n8:(ms.length:Int)<=8:=by omega
  ac_rfl;rw [bz];refine⟨hS,hl,⟨by decide,by decide⟩,by decide,λ u0 ei ej=>?_⟩;ac_rfl;rw [bz];refine⟨hS,hl,⟨by decide,by decide⟩,by decide,λ tn t0 t1=>?_⟩;ac_rfl;rw [bz];refine⟨hS,hl,⟨by decide,by decide⟩,by decide,λ c c0 c1=>?_⟩;ac_rfl;rw [jy];refine⟨by decide,by decide,by omega,n8,λ ds d H1 el e1 h1 c8 de=>?_⟩;have dr:=e1.at hm;have hle:((List.replicate ms.length [V.int 0]).flatten).length<=sizeLine:=by rw [jW,QE,R7];exact aj %[0|8]
  ac_rfl;intro z1 H2 en e2 h2;have dy:=e2.at dr;clear en;ac_rfl;refine⟨by omega,by omega,aj (by simp;omega),?_⟩;intro r H3 a4 e3 h3;rw [Int.toNat_natCast,jW] at h3;have dz:=e3.at dy;clear dr dy h2;ac_rfl;rw [FH];refine⟨by omega,by omega,?_⟩;intro lf H4 aS e4 h4;have bt:rY (ms.length:Int)=((List.range ms.length).map λ (i:Nat)=>(i:Int)).map V.int:=by unfold rY;rw [map_map,Int.toNat_natCast];rfl
  rw [bt] at h4;have bS:=e4.at h3;have b4:=e1.trans (e2.trans (e3.trans e4));have d0:=b4.at hm;have b1:=(e2.trans (e3.trans e4)).at h1;have d1:H lf=none:=(e1.trans (e2.trans e3)).free aS;have ep:H r=none:=(e1.trans e2).free a4;have d2:lf ≠ r:=λ z=>by rw [z,h3] at aS;cases aS
  have nl:l ≠ lf:=λ z=>by rw [←z,dz] at aS;cases aS
  have et:l ≠ r:=λ z=>by rw [←z,(e1.trans e2).at hm] at a4;cases a4
  have ew:d ≠ lf:=λ z=>by rw [←z,(e2.trans e3).at h1] at aS;cases aS
  have ey:d ≠ r:=λ z=>by rw [←z,e2.at h1] at a4;cases a4
  have b2:=l9.init (ms:=ms) (show 1<=1+u0 by omega);have d3:=iE.init (ms:=ms) (B:=B) (one ()) (show 1<=1+u0 by omega) %[0|8] %[0|8];exists c8;exists de;clear h1 h3 dz el bt e1 e2 e3 e4 aS a4 hsz ec c0 c1 t1 ei ej;ac_rfl;refine yx (by repeat' first|exact Kp|exact mo_nI0|exact mo_nI|apply uX|apply mo_unN|exact yi|exact Pr|exact mo_rI0|exact mo_rI|exact mo_rIsN|exact uW|exact Fp|exact mo_qIx|exact Fq|exact mo_qLen|apply sS|apply mo_tB|apply mo_not|apply mo_and|apply mo_or|apply Kq|apply mo_un|apply mo_cons|apply yR|apply mo_cb) (λ m σ H'=>∃ (ls ps:List Int) (u tn:Int) (v7:Option V),σ=[some (.ref a),some (.ref l),some (.int u),some (.int tn),some (.ref d),some (.ref r),some (.ref lf),v7]/\m=ls.length/\Ext H H'/\H' l=some (.lst (ms.map V.int))/\H' lf=some (.lst (ls.map V.int))/\H' r=some (.lst (ps.map V.int))/\H' d=some (.lst (ds.map V.int))/\0<=tn/\iE ms ls ps u B/\l9 ms ls ps u) _ ⟨_,_,_,tn,none,rfl,rfl,b4,d0,h4,bS,b1,t0,d3,b2⟩ ?_;rintro m _ H5 ⟨ls,ps,u,tn,v7,rfl,rfl,e5,d4,a7,b5,d5,ez,hI,hJ⟩;clear h4 bS b1 d0 b4 d3 b2
  cases ls with
  | nil=>
   have fin:=hI.done (one ()) eg (b3 ());have aX:=hJ.done;exists fin;exists aX;clear hI hJ;ac_rfl;intro q H6 hq e6 h6;have d6:=e6.at a7;have k1:=kk () ps r H6 (e5.trans e6) (e6.at b5) (fin ()) (aX ());clear a7 kk fin aX hq;ac_rfl
  | cons l0 ls=>
   have hlen:=hI.lle;rw [Rr] at hlen;have a5:=hI.ule (one ());have f5:=hI.u1;have a6:=hI.sub;exists hI;exists hJ;exists a5;exists a6;ac_rfl;intro q H6 hq e6 h6;have d6:=e6.at a7;clear a7 hq;have i0:=R3 tn (show ((ls.length+1:Nat):Int) ≠ 0 by omega);have i1:=RJ tn (show (0:Int) < ((ls.length+1:Nat):Int) by omega);ac_rfl;generalize hix:(tn % ((ls.length+1:Nat):Int))=ix at i0 i1 ⊢;refine⟨by omega,by omega,?_⟩;obtain⟨x,hx⟩:∃ x,(l0::ls)[ix.toNat]? = some x:=⟨_,QB (by rw [Rr];omega)⟩
   have d7:(V.int l0::List.map V.int ls)[ix.toNat]? = some (.int x):=by
    show ((l0::ls).map V.int)[ix.toNat]? = _
    rw [QL,hx];rfl
   have a3:0<=x/\x < (ms.length:Int):=a6 () x (QV hx)
   have d8:(V.int l0::List.map V.int ls).eraseIdx ix.toNat=((l0::ls).eraseIdx ix.toNat).map V.int:=by
    rw [show (V.int l0::List.map V.int ls)=(l0::ls).map V.int from rfl,mZ]
   have d9:((l0::ls).eraseIdx ix.toNat).length=ls.length:=by rw [List.length_eraseIdx_of_lt (by rw [Rr];omega)];rfl
   rw [d7,iM,DI,d8];have a8:=mY hx;generalize (l0::ls).eraseIdx ix.toNat=es at d9 a8 ⊢;have b6:(upd H6 lf (.lst (es.map V.int))) lf=some (.lst (es.map V.int)):=ar;have b7:(upd H6 lf (.lst (es.map V.int))) r=some (.lst (ps.map V.int)):=by rw [ah (QQ d2)];exact e6.at b5
   have cf:(upd H6 lf (.lst (es.map V.int))) d=some (.lst (ds.map V.int)):=by rw [ah ew];exact e6.at d5
   have cm:(upd H6 lf (.lst (es.map V.int))) l=some (.lst (ms.map V.int)):=by rw [ah nl];exact e6.at d4
   have e7:Ext H (upd H6 lf (.lst (es.map V.int))):=(e5.trans e6).put d1;generalize upd H6 lf (.lst (es.map V.int))=H7 at b6 b7 cf cm e7 ⊢;obtain⟨z,hz,eB⟩:=oW ds x a3.1 (by have:=c8 ();omega);have a9:=de () z eB;have f6:=dj (vals:=ms) a3.1 a3.2;have cS:=gb (ms:=ms) a3.1 a3.2;have eH:=one () _ cS;have eM:=m6 () _ cS;have ea:ps.length=ms.length:=(hI ()).len;have f3:ixN ps.length x=some x.toNat:=Cn a3.1 (by rw [ea];exact a3.2)
   replace a5:u<=3960:=by
    have hP:=aW ms (one ());have hb:=b3 ();have:=a5 ();rw [Rr] at this;have m1:(2+((ms.length:Int) - ((ls.length+1:Nat):Int))) * ae ms<=(2+(ms.length:Int)) * ae ms:=QW %[0|8] %[0|8];have nn:=Sl (yB (one ())) (show 0<=B+2 by omega);omega
   have f7:kd u (ms.getD x.toNat 0):=.inr ⟨by omega,by omega⟩;have cT:=λ (b p:Int) c2 e0 c3=>(hI ()).step (b:=b) (p:=p) (one ()) a8 c2 e0 c3 (c7 ());have c4:=λ (b p:Int) c2 c3=>l9.step (b:=b) (p:=p) (hI ()) (hJ ()) (one ()) a8 c2 c3;exists c4;exists cT;exists a9;exists eH;exists eM;exists ea;clear d6 b5 d5 d4 h6 d7 d8 hx hix hI hJ a6 a8 cS i0 i1 e5 e6;ac_rfl;refine⟨%[0|8],?_⟩;intro w2 H8 fa e8 h8;have eb:=e8.at cf;clear fa;ac_rfl;refine iN (λ j=>j=1\/j=-1) (a9 ()).1 (show z < 4 from (a9 ()).2) (λ v hv=>?_) λ j hj=>?_
   ·simp only [Q1,QR,Rm] at hv
    rcases hv with rfl|rfl|rfl|rfl
    ·exact⟨_,rfl,.inl rfl⟩
    ·exact⟨_,rfl,.inr rfl⟩
    ·exact⟨_,rfl,.inl rfl⟩
    ·exact⟨_,rfl,.inr rfl⟩
   have c5:((u * j).natAbs:Int)=u:=by
    rcases hj with rfl|rfl
    ·rw [TM];omega
    ·omega
   have f9:kd u j:=.inl ⟨by omega,by omega⟩;have fo:=e8.at b7;have c6:0<=z / 2/\z / 2<=1:=by have:=a9 ();omega
   have fin:=λ (_:Unit)=>cT () (z / 2) (u * j) c6.1 c6.2 c5;have aX:=λ (_:Unit)=>c4 () (z / 2) (u * j) c6.1 c5;clear h8 cT c4 hj c5;ac_rfl;rw [oM];have fu:upd H8 r (.lst ((ps.set x.toNat (u * j)).map V.int)) l=some (.lst (ms.map V.int)):=by rw [ah et];exact e8.at cm
   have fv:upd H8 r (.lst ((ps.set x.toNat (u * j)).map V.int)) lf=some (.lst (es.map V.int)):=by rw [ah d2];exact e8.at b6
   have fx:upd H8 r (.lst ((ps.set x.toNat (u * j)).map V.int)) d=some (.lst (ds.map V.int)):=by rw [ah ey];exact eb
   have fy:upd H8 r (.lst ((ps.set x.toNat (u * j)).map V.int)) r=some (.lst ((ps.set x.toNat (u * j)).map V.int)):=ar;have e9:Ext H (upd H8 r (.lst ((ps.set x.toNat (u * j)).map V.int))):=(e7.trans e8).put ep;generalize upd H8 r (.lst ((ps.set x.toNat (u * j)).map V.int))=H9 at fu fv fx fy e9 ⊢;clear fo eb b7 cf cm b6 e8;ac_rfl;exact⟨es.length,by omega,es,ps.set x.toNat (u * j),_,_,_,rfl,rfl,e9,rfl,rfl,Int.ediv_nonneg ez %[0|8],fin (),aX ()⟩
def OtK(ms ps qs:List Int):Prop:=qs.length=ms.length/\∀ B:Int,6<=B->(∀ p∈ps,(p.natAbs:Int)<=B)->∀ q∈qs,(q.natAbs:Int)<=B+2
def vc(xs:List V)(z:Int)(h:0<=z):mB xs (some z) none=xs.drop z.toNat:=by
 unfold mB;obtain⟨n,rfl⟩:=Int.eq_ofNat_of_zero_le h;rw [HT.sIx_none,HT.sIx_nat]
 show _=xs.drop n
 rcases UU n xs.length with q|q
 ·rw [Uk q];exact Sa (by rw [SD];omega)
 ·rw [Ua q,SA (QK _),SA q,List.take_nil]
def yr(xs:List V)(z:Int)(h:0<=z):mB xs none (some z)=xs.take z.toNat:=by
 unfold mB;obtain⟨n,rfl⟩:=Int.eq_ofNat_of_zero_le h;rw [HT.sIx_none,HT.sIx_nat,List.drop_zero,Nat.sub_zero]
 show xs.take (min n xs.length)=xs.take n
 rcases UU n xs.length with q|q
 ·rw [Uk q]
 ·rw [Ua q,Rz,Sa q]
def g9{l b:Addr}{xs ys:List V}{H:Hp}{Q:VK}(h:H l=some (.lst xs))(h':H b=some (.lst ys))(hl:xs.length+ys.length<=sizeLine)(q:jb (.lst (xs++ys)) H Q):JZ M7 (.ref l) Q (.ref b) H:=by
 rw [Ft,Fs,az,h]
 show aH (az H b) (Nb xs H Q)
 rw [az,h'];exact⟨hl,q⟩
def OtK.refl{ms ps:List Int}(h:ps.length=ms.length):OtK ms ps ps:=⟨h,λ B _ hb q hq=>by have:=hb q hq;omega⟩
def OtK.put{ms ps:List Int}{x:Nat}{z:Int}(h:ps.length=ms.length)(hx:x < ps.length)(hz:∀ B:Int,6<=B->(∀ p∈ps,(p.natAbs:Int)<=B)->(z.natAbs:Int)<=B+2):OtK ms ps (ps.take x++[z]++ps.drop (x+1)):=by
 refine⟨by rw [QX,QX,Rf,SD,RN];omega,λ B h6 hb q hq=>?_⟩
 rcases Q6.mp hq with hq|hq
 ·rcases Q6.mp hq with hq|hq
  ·have:=hb q (RM hq);omega
  ·rw [QF.mp hq];exact hz B h6 hb
 ·have:=hb q (SR hq);omega
def OtK.turn{ms ps:List Int}{x:Nat}(h:ps.length=ms.length)(hx:x < ps.length):OtK ms ps (ps.drop x++ps.take x):=by
 refine⟨by rw [QX,Rf,SD];omega,λ B h6 hb q hq=>?_⟩
 rcases Q6.mp hq with hq|hq
 ·have:=hb q (SR hq);omega
 ·have:=hb q (RM hq);omega
def OtK.small{ms ps qs:List Int}(h:qs.length=ms.length)(hq:∀ q∈qs,-6<=q/\q<=6):OtK ms ps qs:=⟨h,λ B h6 _ q hm=>by have:=hq q hm;omega⟩
abbrev vw(K:PySem.W.Frag)(a:Addr)(ns:List Int)(p:Addr)(l:Addr)(H:Hp)(Q:VK)(E:XK):Prop:=p=a/\SqL K H a (ns.map V.int)/\ns.length<=63/\∃ ms ps:List Int,H l=some (.lst (ps.map V.int))/\ps.length=ms.length/\ps.length<=8/\∀ (qs:List Int) (r:Addr) (H':Hp),Ext H H'->H' r=some (.lst (qs.map V.int))->OtK ms ps qs->Q (.ref r) H'
def xO(K:W.Frag)(a:Addr)(ns:List Int):Sp:=λ vs H Q E=>∃ (p:Addr) (l:Addr),vs=[.ref p,.ref l]/\(vw K a ns p l H Q E)
def ER(K:W.Frag)(a:Addr)(ns:List Int)(p:Addr)(l:Addr)(H:Hp)(Q:VK)(E:XK):xO K a ns [.ref p,.ref l] H Q E=(vw K a ns p l H Q E):=gN (f:=λ (p:Addr) (l:Addr)=>[.ref p,.ref l]) (λ _ _ _ _ h=>by cases h;exact⟨rfl,rfl⟩) p l
def mj(T:Tx K mg t)(a:Addr)(ns:List Int):bj P w K mg base CX0 2 t.a_Bg t.d_Bg ["_law_script", "_law_paces"] (xO K a ns):=by
 have G_Eb:=%[er|46] a ns;have G_Bf:=%[cZ|46];refine T.F_Bg.ok dB (λ _ _ _ _ h=>gO h λ _ _=>rfl) (λ c A o s H vs Q E hr h=>?_)
 ·obtain⟨_,l,rfl,rfl,hS,hl,ms,ps,hp,a5,c6,kk⟩:=h;rename_i a;refine⟨_,%[%[2,dB,%[Eb,%[%[0|0],%[%[0|2],%[%[0|2]|1]|1]|1]|3]|4],%[%[3,dB,%[Eb,%[%[0|0],%[%[0|2],%[%[0|2]|1]|1]|1]|3]|4],%[%[(PW.pt %[%[vN,%[2|0],%[0|2],(au _)|14],%[%[(cy hr.units),%[1|0],%[(@cx _)|20],(au _)|14]|34]|29]),%[%[%[gL,∅,T.z_list,nofun,%[%[1|0]|1],⋯,⋯,∅,∅|42]|12]|10],(@aq _)|17],%[%[4,dB,%[pY,%[3|0],%[len,ak,%[%[1|0]|1]|6]|11]|4],%[%[%[(cy hr.units),%[2|0],%[0|2],(au _)|14],%[%[%[fi,%[fi,%[B4,%[1|0],(@df _),%[%[4|0]|39]|38],%[%[%[eT,%[0|2],%[bY,%[1|0],%[4|0],(λ _ _=>rfl)|13]|11]|1]|20]|11],%[B4,%[1|0],%[%[bG,%[4|0],%[0|2]|11]|39],(@df _)|38]|11]|12]|10],(@aq _)|17],%[%[%[(cy hr.units),%[2|0],%[0|2],(au _)|14],%[%[%[fi,%[B4,%[1|0],%[%[4|0]|39],(@df _)|38],%[B4,%[1|0],(@df _),%[%[4|0]|39]|38]|11]|12]|10],(@aq _)|17],%[%[%[(cy hr.units),%[2|0],%[0|2],(au _)|14],%[%[%[(["_law_digit", "_law_script", "_law_paces", "_law_way", "_law_k", "_law_axis"]),(1),(aC (aa dw) ["_law_script", "_law_paces", "_law_way", "_law_k", "_law_axis"] rfl rfl nofun),rfl,%[%[Bf,%[%[Eb,%[%[0|0],%[%[0|2],%[%[0|2]|1]|1]|1]|3],%[%[0|2],%[%[len,ak,%[%[1|0]|1]|6]|1]|1]|1]|3]|18],(λ C s₀ H₀ ex pn=>%[(0),_,(show List.Nodup (["_law_digit", "_law_script", "_law_paces", "_law_way", "_law_k", "_law_axis"]:List Str) from by decide +kernel),rfl,(Or.inl rfl),%[0|7]|15]),(λ C s₀ H₀ ex pn=>(@aI _)),(λ C s₀ H₀ ex pn=>%[eT,%[0|0],%[0|2]|11]),(by intros;rfl)|22]|12]|10],(@aq _)|17],%[%[%[(cy hr.units),%[2|0],%[0|2],(au _)|14],%[%[%[fi,%[fi,%[B4,%[1|0],(@df _),%[%[4|0]|39]|38],%[%[%[0|2]|1]|20]|11],%[B4,%[1|0],%[%[bG,%[4|0],%[0|2]|11]|39],(@df _)|38]|11]|12]|10],(@aq _)|17],%[%[%[fi,%[fi,%[B4,%[1|0],(@df _),%[%[4|0]|39]|38],%[%[%[bG,%[bY,%[1|0],%[4|0],(λ _ _=>rfl)|13],%[bY,%[%[%[0|2],%[%[fZ,%[0|2]|43],%[%[0|2]|1]|1]|1]|20],%[pY,%[kn,%[3|0],%[0|2]|11],%[0|2]|11],(λ _ _=>rfl)|13]|11]|1]|20]|11],%[B4,%[1|0],%[%[bG,%[4|0],%[0|2]|11]|39],(@df _)|38]|11]|12]|10]|9]|9]|9]|9]|9]|9]|9]|9],?_⟩;rw [show aw ["_law_script", "_law_paces", "_law_way", "_law_k", "_law_axis"] [.ref a,.ref l]=[some (.ref a),some (.ref l),none,none,none] from rfl];clear G_Eb G_Bf;exists kk;exists a5;ac_rfl;rw [bz];refine⟨hS,hl,⟨by decide,by decide⟩,by decide,λ wy w0 w1=>?_⟩;ac_rfl;rw [bz];refine⟨hS,hl,⟨by decide,by decide⟩,by decide,λ k k0 k1=>?_⟩
  by_cases hw3:wy < 3
  ·ac_rfl;intro r1 H1 b5 e1 h1;exact kk () ps r1 H1 e1 h1 (OtK.refl (a5 ()))
  ·cases hps:ps with
   | nil=>
    have bS:H l=some (.lst []):=by rw [hp,hps];rfl
    clear hp;ac_rfl;intro r1 H1 b5 e1 h1;have b1:=e1.at bS;clear b5 bS;ac_rfl;intro r2 H2 a6 e2 h2;exact kk () ps r2 H2 (e1.trans e2) (by rw [h2,hps];rfl) (OtK.refl (a5 ()))
   | cons y0 ys=>
   have b7:0 < (ps.length:Int):=by rw [hps,Rr];omega
   have c7:¬ ps=[]:=λ z=>by rw [hps] at z;cases z
   have bS:H l=some (.lst (.int y0::ys.map V.int)):=by rw [hp,hps];rfl
   have hlen:ps.length=ys.length+1:=by rw [hps];rfl
   have x0:=R3 k (show (ps.length:Int) ≠ 0 by omega);have x1:=RJ k b7;obtain⟨x,hx⟩:∃ x,k % ((ys.length+1:Nat):Int)=x:=⟨_,rfl⟩;rw [hlen,hx] at x0 x1;clear hp;ac_rfl;intro r1 H1 b5 e1 h1;have b1:=e1.at bS;have b6:=e1.2 K a _ hS;clear b5 bS;have aS:V.int y0::ys.map V.int=ps.map V.int:=by rw [hps];rfl
   have a9:x.toNat < ps.length:=by omega
   have dz:atI (V.int y0::ys.map V.int) x=some (.int (ps.getD x.toNat 0)):=by rw [aS];exact dj x0 (by rw [hlen];exact x1)
   have cm:ps.getD x.toNat 0∈ps:=by
    rw [List.getD,QB a9];exact Sd a9
   have c8:(0:Int) < ((ys.length+1:Nat):Int):=by omega
   have ct:=yr (.int y0::ys.map V.int) x x0;have cf:=vc (.int y0::ys.map V.int) x x0;have de:=vc (.int y0::ys.map V.int) (x+1) %[0|8];rw [show (x+1).toNat=x.toNat+1 by omega] at de;have d0:ys.length+1<=8:=by omega
   exists aS;exists hlen;clear hps b7 c7 hS c6
   by_cases h3:wy=3
   ·ac_rfl;intro r2 H2 a6 e2 h2;have a4:=e2.at b1;have cT:=e2.2 K a _ b6;clear a6;ac_rfl;intro q2 G2 b2 g2 k2;have a7:=g2.at h2;have aX:=g2.at a4;clear b2 h2 a4;refine g9 a7 k2 (aj (by rw [Rf,RN,Rr,QE];omega)) ?_;intro q3 G3 b3 g3 k3;have a8:=g3.at aX;clear b3 a7 k2 aX;ac_rfl;intro q4 G4 b4 g4 k4;have a3:=g4.at k3;clear b4 k3 a8;refine g9 a3 k4 (aj (by rw [QX,Rf,SD,RN,Rr,QE];omega)) ?_;intro q5 G5 c2 g5 k5;have fin:=kk () (ps.take x.toNat++[0 - ps.getD x.toNat 0]++ps.drop (x.toNat+1)) q5 G5 (e1.trans (e2.trans (g2.trans (g3.trans (g4.trans g5))))) (by rw [k5,aS (),RA,RA,UC,UE];rfl) (OtK.put (a5 ()) a9 λ B h6 hb=>by have:=hb _ cm;omega);clear kk a3 k4 k5;ac_rfl
   by_cases h4:wy=4
   ·ac_rfl;intro r2 H2 a6 e2 h2;have a4:=e2.at b1;clear a6;ac_rfl;intro r3 H3 dr e3 bt;have cS:=e3.at h2;clear dr h2 a4;refine g9 cS bt (aj (by rw [Rf,SD,Rr,QE];omega)) ?_;intro r4 H4 d1 e4 c3;have fin:=kk () (ps.drop x.toNat++ps.take x.toNat) r4 H4 (e1.trans (e2.trans (e3.trans e4))) (by rw [c3,aS (),RA,UC,UE]) (OtK.turn (a5 ()) a9);clear kk cS bt c3;ac_rfl
   by_cases h5:wy=5
   ·ac_rfl;rw [bz];refine⟨b6,hl,⟨by decide,by decide⟩,by decide,λ c c0 c1=>?_⟩;ac_rfl;rw [jy];refine⟨by decide,by decide,by omega,by omega,λ ds d H2 hd2 e2 h2 c4 c5=>?_⟩;have d2:ds.length<=9:=by omega
    exists c4;exists c5;clear hd2;ac_rfl;refine bc (ds.map V.int) (λ _=>true) (λ z=>.int (vi z - 6)) (λ z x H'=>x=z/\H' d=some (.lst (ds.map V.int))) (uz h2).1 (uz h2).2 (aj (by rw [QE];omega)) ?_ ?_
    ·intro D z y H' N1 N0 hz hD e ⟨hy,_⟩ kx _;subst hy;obtain⟨i,_,rfl⟩:=QG.mp hz;have d3:N1 (.int (i - 6)) H':=kx rfl H' (Ext.refl _);clear kx kk hz;simp! only [↓aV,↓aO]
    ·intro D H3 hD e3 bt;rw [jc,Rq] at bt
     have fin:=kk () (ds.map λ i=>i - 6) D H3 (e1.trans (e2.trans e3)) (by rw [bt,Rq];rfl) (OtK.small (by rw [QE,←a5 ()];have:=c4 ();have:=hlen ();omega) λ q hq=>by
      obtain⟨i,hi,rfl⟩:=QG.mp hq;have:=c5 () i hi;omega)
     clear kk bt;ac_rfl
   by_cases h6:wy=6
   ·ac_rfl;intro r2 H2 a6 e2 h2;have a4:=e2.at b1;have cT:=e2.2 K a _ b6;clear a6;ac_rfl;intro q2 G2 b2 g2 k2;have a7:=g2.at h2;have aX:=g2.at a4;clear b2 h2 a4;refine g9 a7 k2 (aj (by rw [Rf,RN,Rr,QE];omega)) ?_;intro q3 G3 b3 g3 k3;have a8:=g3.at aX;clear b3 a7 k2 aX;ac_rfl;intro q4 G4 b4 g4 k4;have a3:=g4.at k3;clear b4 k3 a8;refine g9 a3 k4 (aj (by rw [QX,Rf,SD,RN,Rr,QE];omega)) ?_;intro q5 G5 c2 g5 k5;have fin:=kk () (ps.take x.toNat++[0]++ps.drop (x.toNat+1)) q5 G5 (e1.trans (e2.trans (g2.trans (g3.trans (g4.trans g5))))) (by rw [k5,aS (),RA,RA,UC,UE];rfl) (OtK.put (a5 ()) a9 λ B h6 hb=>by show (0:Int)<=B+2;omega);clear kk a3 k4 k5;ac_rfl
   ·have m0:=R3 (k / 8) (show (3:Int) ≠ 0 by decide);have m1:=RJ (k / 8) (show (0:Int) < 3 by decide);ac_rfl;intro r2 H2 a6 e2 h2;have a4:=e2.at b1;have cT:=e2.2 K a _ b6;clear a6;ac_rfl;intro q1 G1 dy g1 k1;clear dy;ac_rfl;refine iN (λ j=>-1<=j/\j<=2) m0 m1 (λ v hv=>?_) λ j hj=>?_
    ·simp only [Q1,QR,Rm] at hv
     rcases hv with rfl|rfl|rfl<;>exact⟨_,rfl,by decide⟩
    clear k1;ac_rfl;intro q2 G2 b2 g2 k2;have a7:=(g1.trans g2).at h2;have aX:=(g1.trans g2).at a4;clear b2 h2 a4;refine g9 a7 k2 (aj (by rw [Rf,RN,Rr,QE];omega)) ?_;intro q3 G3 b3 g3 k3;have a8:=g3.at aX;clear b3 a7 k2 aX;ac_rfl;intro q4 G4 b4 g4 k4;have a3:=g4.at k3;clear b4 k3 a8;refine g9 a3 k4 (aj (by rw [QX,Rf,SD,RN,Rr,QE];omega)) ?_;intro q5 G5 c2 g5 k5;have fin:=kk () (ps.take x.toNat++[ps.getD x.toNat 0+j]++ps.drop (x.toNat+1)) q5 G5 (e1.trans (e2.trans (g1.trans (g2.trans (g3.trans (g4.trans g5)))))) (by rw [k5,aS (),RA,RA,UC,UE];rfl) (OtK.put (a5 ()) a9 λ B h6 hb=>by have:=hb _ cm;omega);clear kk a3 k4 k5;ac_rfl
abbrev zI  (l:Addr) (r:Addr) (H:Hp) (Q:VK) (E:XK):Prop:=∃ ms ps:List Int,H l=some (.lst (ms.map V.int))/\H r=some (.lst (ps.map V.int))/\(∀ m∈ms,1<=m/\m<=6)/\ms.length<=8/\ps.length=ms.length/\∀ H',Ext H H'->Q (.int (aJ (ms.zip ps))) H'
def FP  : Sp:=λ vs H Q E=>∃ (l:Addr) (r:Addr),vs=[.ref l,.ref r]/\(zI  l r H Q E)
def sX  (l:Addr) (r:Addr) (H:Hp) (Q:VK) (E:XK):FP  [.ref l,.ref r] H Q E=(zI  l r H Q E):=gN (f:=λ (l:Addr) (r:Addr)=>[.ref l,.ref r]) (λ _ _ _ _ h=>by cases h;exact⟨rfl,rfl⟩) l r
def ph(T:Tx K mg t):bj P w K mg base CX0 1 t.a_DV t.d_DV ["_law_sizes_here", "_law_paces"] FP:=by
 refine T.F_DV.ok rR (λ _ _ _ _ h=>gO h λ _ _=>rfl) (λ c A o s H vs Q E hr h=>?_)
 ·obtain⟨l,r,rfl,ms,ps,hm,hp,h6,h8,a5,k⟩:=h;refine⟨_,%[%[%[sum,(gd rfl),%[%[(["_law_size", "_law_pace", "_law_sizes_here", "_law_paces"]),(2),(aC (aa ed) ["_law_sizes_here", "_law_paces"] rfl rfl nofun),rfl,%[∅,T.z_zip,%[%[0|0],%[%[1|0]|1]|1],∅,∅|41],(λ C s₀ H₀ ex pn=>(%[(2),rfl,%[%[(0),_,(show List.Nodup (["_law_size", "_law_pace", "_law_sizes_here", "_law_paces"]:List Str) from by decide +kernel),rfl,(Or.inl rfl),%[0|7]|15],%[%[(1),_,(show List.Nodup (["_law_size", "_law_pace", "_law_sizes_here", "_law_paces"]:List Str) from by decide +kernel),rfl,(Or.inl rfl),%[0|7]|15],(@aL _),∅|16],∅|16],∅,∅|26].mono λ _ _ _ _ h=>b0 h)),(λ C s₀ H₀ ex pn=>(@aI _)),(λ C s₀ H₀ ex pn=>%[min,(qN rfl),%[%[0|2],%[%[cP,%[1|0],%[eT,%[0|0],%[0|2]|11]|11]|1]|1]|6]),(by intros;rfl)|22]|1]|6]|12]|10],?_⟩;rw [show aw ["_law_sizes_here", "_law_paces"] [.ref l,.ref r]=[some (.ref l),some (.ref r)] from rfl];exists h6;ac_rfl;refine bc ((ms.map V.int).zip (ps.map V.int)) (λ _=>true) (λ z=>.int (min 0 ((vi z.1 - 1) * vi z.2))) E2 (jF (ka:=false) (kb:=false) hm hp).1 (jF (ka:=false) (kb:=false) hm hp).2 (aj (by rw [Sy,QE,QE];omega)) ?_ ?_
  ·intro D z y H' N1 N0 hz hD e ⟨u,hu,a6⟩ k1 _;subst hu;obtain⟨x0,n0⟩:=z;have aS:=SF hz;obtain⟨a,ha,rfl⟩:=QG.mp aS.1;obtain⟨b,a7,rfl⟩:=QG.mp aS.2;have a3:N1 (.int (min 0 ((a - 1) * b))) H':=k1 rfl H' (Ext.refl _);have ca:=h6 () a ha;have a8:kd b (a - 1):=.inr ⟨by omega,by omega⟩;rw [Pt,RW] at a3;clear k1 aS hz k;simp! only [↓dg,↓aO]
  ·intro D H' hD e aX
   have a9:H' D=some (.lst (((ms.zip ps).map λ a=>min 0 ((a.1 - 1) * a.2)).map V.int)):=by
    rw [aX,jc,List.zip_map,Rq,Rq];rfl
   have a4:((ms.zip ps).map λ a=>min 0 ((a.1 - 1) * a.2)).sum=aJ (ms.zip ps):=rfl;have k2:=k H' e;clear k aX;ac_rfl
abbrev zH  (l:Addr) (r:Addr) (H:Hp) (Q:VK) (E:XK):Prop:=∃ ms ps:List Int,H l=some (.lst (ms.map V.int))/\H r=some (.lst (ps.map V.int))/\(∀ m∈ms,1<=m/\m<=6)/\ms.length<=8/\ps.length=ms.length/\∀ H',Ext H H'->Q (.int (aG (ms.zip ps))) H'
def FO  : Sp:=λ vs H Q E=>∃ (l:Addr) (r:Addr),vs=[.ref l,.ref r]/\(zH  l r H Q E)
def zx  (l:Addr) (r:Addr) (H:Hp) (Q:VK) (E:XK):FO  [.ref l,.ref r] H Q E=(zH  l r H Q E):=gN (f:=λ (l:Addr) (r:Addr)=>[.ref l,.ref r]) (λ _ _ _ _ h=>by cases h;exact⟨rfl,rfl⟩) l r
def rF(T:Tx K mg t):bj P w K mg base CX0 1 t.a_Ed t.d_Ed ["_law_sizes_here", "_law_paces"] FO:=by
 refine T.F_Ed.ok um (λ _ _ _ _ h=>gO h λ _ _=>rfl) (λ c A o s H vs Q E hr h=>?_)
 ·obtain⟨l,r,rfl,ms,ps,hm,hp,h6,h8,a5,k⟩:=h;refine⟨_,%[%[%[sum,(gd rfl),%[%[(["_law_size", "_law_pace", "_law_sizes_here", "_law_paces"]),(2),(aC (aa fw) ["_law_sizes_here", "_law_paces"] rfl rfl nofun),rfl,%[∅,T.z_zip,%[%[0|0],%[%[1|0]|1]|1],∅,∅|41],(λ C s₀ H₀ ex pn=>(%[(2),rfl,%[%[(0),_,(show List.Nodup (["_law_size", "_law_pace", "_law_sizes_here", "_law_paces"]:List Str) from by decide +kernel),rfl,(Or.inl rfl),%[0|7]|15],%[%[(1),_,(show List.Nodup (["_law_size", "_law_pace", "_law_sizes_here", "_law_paces"]:List Str) from by decide +kernel),rfl,(Or.inl rfl),%[0|7]|15],(@aL _),∅|16],∅|16],∅,∅|26].mono λ _ _ _ _ h=>b0 h)),(λ C s₀ H₀ ex pn=>(@aI _)),(λ C s₀ H₀ ex pn=>%[max,(iR rfl),%[%[0|2],%[%[cP,%[1|0],%[eT,%[0|0],%[0|2]|11]|11]|1]|1]|6]),(by intros;rfl)|22]|1]|6]|12]|10],?_⟩;rw [show aw ["_law_sizes_here", "_law_paces"] [.ref l,.ref r]=[some (.ref l),some (.ref r)] from rfl];exists h6;ac_rfl;refine bc ((ms.map V.int).zip (ps.map V.int)) (λ _=>true) (λ z=>.int (max 0 ((vi z.1 - 1) * vi z.2))) E2 (jF (ka:=false) (kb:=false) hm hp).1 (jF (ka:=false) (kb:=false) hm hp).2 (aj (by rw [Sy,QE,QE];omega)) ?_ ?_
  ·intro D z y H' N1 N0 hz hD e ⟨u,hu,a6⟩ k1 _;subst hu;obtain⟨x0,n0⟩:=z;have aS:=SF hz;obtain⟨a,ha,rfl⟩:=QG.mp aS.1;obtain⟨b,a7,rfl⟩:=QG.mp aS.2;have a3:N1 (.int (max 0 ((a - 1) * b))) H':=k1 rfl H' (Ext.refl _);have ca:=h6 () a ha;have a8:kd b (a - 1):=.inr ⟨by omega,by omega⟩;rw [Pu,RW] at a3;clear k1 aS hz k;simp! only [↓dg,↓aO]
  ·intro D H' hD e aX
   have a9:H' D=some (.lst (((ms.zip ps).map λ a=>max 0 ((a.1 - 1) * a.2)).map V.int)):=by
    rw [aX,jc,List.zip_map,Rq,Rq];rfl
   have a4:((ms.zip ps).map λ a=>max 0 ((a.1 - 1) * a.2)).sum=aG (ms.zip ps):=rfl;have k2:=k H' e;clear k aX;ac_rfl
abbrev zM  (f:Int) (l:Addr) (q:Addr) (H:Hp) (Q:VK) (E:XK):Prop:=∃ ms ps:List Int,H l=some (.lst (ms.map V.int))/\H q=some (.lst (ps.map V.int))/\(∀ m∈ms,1<=m/\m<=6)/\ms.length<=8/\ps.length=ms.length/\ae ms<=60/\∀ (r:Addr) (H':Hp),Ext H H'->H' r=some (.lst ((af f (ms.zip ps)).map V.int))->Q (.ref r) H'
def FU  : Sp:=λ vs H Q E=>∃ (f:Int) (l:Addr) (q:Addr),vs=[.int f,.ref l,.ref q]/\(zM  f l q H Q E)
def zz  (f:Int) (l:Addr) (q:Addr) (H:Hp) (Q:VK) (E:XK):FU  [.int f,.ref l,.ref q] H Q E=(zM  f l q H Q E):=B2 (f:=λ (f:Int) (l:Addr) (q:Addr)=>[.int f,.ref l,.ref q]) (λ _ _ _ _ _ _ h=>by cases h;exact⟨rfl,rfl,rfl⟩) f l q
def pk(T:Tx K mg t):bj P w K mg base CX0 1 t.a_DW t.d_DW ["_law_first", "_law_sizes_here", "_law_paces"] FU:=by
 refine T.F_DW.ok bL (λ _ _ _ _ h=>B3 h λ _ _ _=>rfl) (λ c A o s H vs Q E hr h=>?_)
 ·obtain⟨first,l,q,rfl,ms,ps,hm,hp,h6,h8,c0,c1,k⟩:=h;refine⟨_,%[%[3,bL,%[%[%[0|0]|1]|20]|4],%[%[QT,rfl,%[∅,T.z_zip,%[%[1|0],%[%[2|0]|1]|1],∅,∅|41],(%[(2),rfl,%[%[4,bL|5],%[%[(5),_,bL.nd,rfl,(Or.inr rfl),%[0|7]|15],(@aL _),∅|16],∅|16],∅,∅|26].mono λ _ _ _ _ h=>b0 h),%[%[6,bL,%[(@cx _)|20]|4],%[%[QT,rfl,%[%[3|0]|18],%[(7),_,bL.nd,rfl,(Or.inr rfl),%[0|7]|15],%[%[%[Q3,S7,S6,iO,%[6|0],%[%[(["_law_k", "_law_first", "_law_sizes_here", "_law_paces", "_law_found", "_law_size", "_law_pace", "_law_longer", "_law_cell"]),(1),(aC (aa ee) ["_law_first", "_law_sizes_here", "_law_paces", "_law_found", "_law_size", "_law_pace", "_law_longer", "_law_cell"] rfl rfl nofun),rfl,%[∅,T.z_range,%[%[4|0]|1],∅|35],(λ C s₀ H₀ ex pn=>%[(0),_,(show List.Nodup (["_law_k", "_law_first", "_law_sizes_here", "_law_paces", "_law_found", "_law_size", "_law_pace", "_law_longer", "_law_cell"]:List Str) from by decide +kernel),rfl,(Or.inl rfl),%[0|7]|15]),(λ C s₀ H₀ ex pn=>(@aI _)),(λ C s₀ H₀ ex pn=>%[bG,%[8|0],%[cP,%[6|0],%[0|0]|11]|11]),(by intros;rfl)|22]|1],∅,∅,∅,∅,∅|33],∅|19]|10],(by intros;rfl)|21],%[%[3,bL,%[6|0]|4]|10]|9]|9],(by intros;rfl)|21],%[%[%[3|0]|12]|10]|9]|9],?_⟩;rw [show aw ["_law_first", "_law_sizes_here", "_law_paces", "_law_found", "_law_size", "_law_pace", "_law_longer", "_law_cell"] [.int first,.ref l,.ref q]=[some (.int first),some (.ref l),some (.ref q),none,none,none,none,none] from rfl]
  have aX:(ms.zip ps).map (λ a=>a.1)=ms:=by
   rw [show (λ a:Int × Int=>a.1)=Prod.fst from rfl,Ud %[0|8]]
  have a3:∀ a∈ms.zip ps,(1:Int)<=a.1:=λ a ha=>(h6 a.1 (SF (show (a.1,a.2)∈ms.zip ps from ha)).1).1;exists a3;exists aX;exists h6;exists k;ac_rfl;intro r H1 b2 e1 h1;have b3:=e1.at hm;have b4:=e1.at hp;ac_rfl;refine ku (ka:=false) (kb:=false) (xs:=ms.map V.int) (ys:=ps.map V.int) (λ i σ H'=>∃ (r:Addr) (v4 v5 v6 v7:Option V),σ=[some (.int first),some (.ref l),some (.ref q),some (.ref r),v4,v5,v6,v7]/\Ext H H'/\H' r=some (.lst ((af first ((ms.zip ps).take i)).map V.int))) ⟨r,none,none,none,none,rfl,e1,h1⟩ (λ i σ H' ⟨_,_,_,_,_,_,e,_⟩=>⟨e.at hm,e.at hp⟩) ?_ ?_
  ·rintro i x y w' _ H2 H3 hx hy ⟨r,v4,v5,v6,v7,rfl,e2,h2⟩ hw e3 h3;rw [QL] at hx hy;obtain⟨a,ha,rfl⟩:=QJ.mp hx;obtain⟨b,hb,rfl⟩:=QJ.mp hy;have a4:(ms.zip ps)[i]? = some (a,b):=by rw [RB];exact⟨ha,hb⟩
   have c2:=h6 () a (QV ha)
   have hlen:(af first ((ms.zip ps).take i)).length * a.toNat<=60:=by
    have a5:=aF first ((ms.zip ps).take i) λ b hb=>a3 () b (RM hb)
    have a6:=fK ms (λ n hn=>(h6 () n hn).1) (i+1);rw [jq _ i a ha] at a6;rw [UC,aX ()] at a5;rw [←a5] at a6;have b5:((a.toNat:Nat):Int)=a:=RC %[0|8]
    have:(((af first ((ms.zip ps).take i)).length * a.toNat:Nat):Int)<=60:=by rw [TL,b5];omega
    omega
   have a7:af first ((ms.zip ps).take (i+1))=bw (af first ((ms.zip ps).take i)) (a,b):=by
    rw [RD,a4]
    show af first ((ms.zip ps).take i++[(a,b)])=_
    rw [lE]
   rw [a7];have aS:=e3.at h2;have a8:=e2.trans e3
   generalize af first ((ms.zip ps).take i)=cs at hlen aS h2
   exists hlen;clear a7 hx hy ha hb a4 hw h2 e2 e3 h1 b2 b3 b4 e1;simp! only [↓aA];intro g H4 a9 e4 h4;have bt:=e4.at aS;have b6:H g=none:=a8.free a9;ac_rfl;refine cG (xs:=cs.map V.int) (λ j σ H'=>∃ v7:Option V,σ=[some (.int first),some (.ref l),some (.ref q),some (.ref r),some (.int a),some (.int b),some (.ref g),v7]/\Ext H H'/\Ext H3 H'/\H' g=some (.lst ((bw (cs.take j) (a,b)).map V.int))) ⟨_,rfl,a8.trans e4,e4,h4⟩ (λ j σ H' _ ⟨_,_,_,e,_⟩=>e.at aS) ?_ ?_
   ·rintro j x _ H5 hj ⟨b7,rfl,e5,bS,h5⟩;rw [QL] at hj;obtain⟨c,hc,rfl⟩:=QJ.mp hj;have c3:j < cs.length:=(QD.mp hc).1
    have cf:(bw (cs.take j) (a,b)).length+a.toNat<=60:=by
     rw [kB,Rf]
     show min j cs.length * a.toNat+a.toNat<=60
     have:(min j cs.length+1) * a.toNat<=cs.length * a.toNat:=TB _ %[0|8];rw [Nat.add_mul,Nat.one_mul] at this;have:=hlen ();omega
    rw [mL cs (a,b) j c hc];generalize bw (cs.take j) (a,b)=ws at h5 cf;clear hj hc bt h4 e4 k;simp! only [↓aA];refine⟨by omega,by omega,?_⟩;refine bc (List.range a.toNat) (λ _=>true) (λ m=>.int (c+(m:Int) * b)) (λ j x H'=>x=.int (0+(j:Nat))) fM.1 fM.2 (aj (by rw [Rb];omega)) ?_ ?_
    ·intro D m x H' N1 N0 b1 hD e hx k1 _;subst hx;have c4:=Rj.mp b1
     have c5:N1 (.int (c+b * (0+(m:Int)))) H':=by
      rw [Rv,RW b];exact k1 rfl H' (Ext.refl _)
     have c6:kd b (0+(m:Int)):=.inr ⟨by omega,by omega⟩;clear k1 b1;simp! only [↓aV,↓aO]
    ·intro D H6 hD e6 cm;rw [jc] at cm;have cT:=e6.at h5;have c7:ws.length+(List.range a.toNat).length<=sizeLine:=aj (by rw [Rb];omega);clear h5;ac_rfl;refine⟨_,rfl,(e5.trans e6).put b6,(bS.trans e6).put a9,?_⟩;rw [RA,Rq];rfl
   ·rintro _ H5 ⟨b7,rfl,e5,bS,h5⟩;rw [QE,Rz] at h5;ac_rfl;exact⟨g,_,_,_,_,rfl,e5,h5⟩
  ·rintro _ H3 ⟨r3,v4,v5,v6,v7,rfl,e3,h3⟩;have cS:min (ms.map V.int).length (ps.map V.int).length=(ms.zip ps).length:=by rw [QE,QE,Sy]
   rw [cS,Rz] at h3;ac_rfl;exact k () r3 H3 e3 h3
def zU(cs:List Int)(a:Int × Int)(h:1<=a.1):bw cs (aB a)=bw cs a:=by
 unfold bw
 show (cs.flatMap λ c=>(List.range a.1.toNat).map λ (n:Nat)=>c+(n:Int) * (if a.1 > 1 then a.2 else 0))=_
 by_cases h1:a.1 > 1
 ·rw [Rc h1]
 ·rw [Q5 h1];have e:a.1.toNat=1:=by omega
  rw [e];refine RS (λ f=>cs.flatMap f) (funext λ c=>?_);simp
def qG:∀ (axs:List (Int × Int)) (cs:List Int),(∀ a∈axs,(1:Int)<=a.1)->(axs.map aB).foldl bw cs=axs.foldl bw cs
 | [],cs,_=>rfl
 | a::r,cs,h=>by
  rw [RQ,Sq,Sq,zU cs a (h a QP),qG r _ λ b hb=>h b (QM _ hb)]
def ff(f:Int)(axs:List (Int × Int))(h:∀ a∈axs,(1:Int)<=a.1):af f (axs.map aB)=af f axs:=qG axs [f] h
def cA(axs:List (Int × Int)):(axs.map aB).map (λ a=>a.1)=axs.map λ a=>a.1:=by rw [Rq];rfl
def dG{axs:List (Int × Int)}(h:fh axs):fh (axs.map aB):=⟨by rw [QE];exact h.1,λ a ha=>by
 obtain⟨b,hb,rfl⟩:=QG.mp ha;exact h.2 b hb⟩
def eW:∀ l:List (Int × Int),(∀ a∈l,(1:Int)<=a.1)->aJ (l.map aB)=aJ l/\aG (l.map aB)=aG l
 | [],_=>⟨rfl,rfl⟩
 | a::r,h=>by
  obtain⟨i1,i2⟩:=eW r λ b hb=>h b (QM _ hb);have ha:=h a QP
  have e:((aB a).1 - 1) * (aB a).2=(a.1 - 1) * a.2:=by
   show (a.1 - 1) * (if a.1 > 1 then a.2 else 0)=_
   split
   ·rfl
   ·have:a.1=1:=by omega
    rw [this];simp
  rw [RQ,cp,cq,cp,cq,e,i1,i2];exact⟨rfl,rfl⟩
def Cy(ms ws:List Int):(ms.map V.int).zip (ws.map V.int)=(ms.zip ws).map λ z=>(V.int z.1,V.int z.2):=by
 rw [List.zip_map];rfl
def yt{H:Hp}{ms ws:List Int}{ts:List V}(al:Al (λ z y=>E2 z y H) ((ms.map V.int).zip (ws.map V.int)) ts):Al (bD H) (axL (ms.zip ws)) ts:=by
 rw [Cy] at al;refine⟨by rw [al.1];unfold axL;rw [length_map,length_map],λ i z y hz hy=>?_⟩;unfold axL at hz;rw [getElem?_map] at hz;obtain⟨x,hx,rfl⟩:=Option.map_eq_some_iff.mp hz;obtain⟨p,hp,hq⟩:=al.2 i (V.int x.1,V.int x.2) y (by rw [getElem?_map,hx];rfl) hy;exact⟨p,hp,hq⟩
structure JS(ms:List Int)(room f:Int)(ps:List Int):Prop where
 len:ps.length=ms.length
 lo:0<=f+aJ (ms.zip ps)
 hi:f+aG (ms.zip ps) < room
def nY{ms ps:List Int}(h:SzK ms)(hl:ps.length=ms.length):fh (ms.zip ps):=⟨by rw [Sy];have:=h.pos.2.1;omega,λ a ha=>by
 have:=h.pos.1 a.1 (SF (show (a.1,a.2)∈ms.zip ps from ha)).1;omega⟩
def yv{ms ps:List Int}(hl:ps.length=ms.length):(ms.zip ps).map (λ a=>a.1)=ms:=by
 rw [show (λ a:Int × Int=>a.1)=Prod.fst from rfl,Ud %[0|8]]
def JS.view{ms ps:List Int}{room f:Int}(h:JS ms room f ps)(hs:SzK ms)(r1:1<=room)(r2:room<=4096):p6 room f (ms.zip ps):=by
 have aS:=nY hs h.len;obtain⟨g1,g2⟩:=eW (ms.zip ps) λ a ha=>(aS.2 a ha).1;have:=h.lo;have:=h.hi;exact⟨aS,r1,by omega,by rw [g1];omega,by rw [g2];omega⟩
def zW{ms ps qs:List Int}(hs:SzK ms)(hp:PcK ms ps)(hq:OtK ms ps qs):∃ S1 S2:Int,aG (ms.zip ps) - aJ (ms.zip ps)<=S1/\aG (ms.zip qs) - aJ (ms.zip qs)<=S2/\S1+S2<=3960/\aJ (ms.zip ps)<=0/\0<=aG (ms.zip ps)/\aJ (ms.zip qs)<=0/\0<=aG (ms.zip qs):=by
 have one:∀ m∈ms,(1:Int)<=m:=λ m hm=>(hs.pos.1 m hm).1;obtain⟨hl,S,B,h1,h2,h3,h4,h5⟩:=hp;obtain⟨a1,a2,a3,_⟩:=oa ms ps one hl;obtain⟨b1,b2,b3,_⟩:=oa ms qs one hq.1;have hb:=qj ms qs (B+2) one hq.1 (hq.2 B h3 h2) %[0|8];exact⟨S,mz ms * (B+2),by omega,by omega,h5,a2,a3,b2,b3⟩
abbrev zG(K:PySem.W.Frag)(a:Addr)(ns:List Int)(C:Addr)(p:Addr)(l:Addr)(H:Hp)(Q:VK)(E:XK):Prop:=p=a/\SqL K H a (ns.map V.int)/\ns.length<=63/\∃ ms:List Int,H l=some (.lst (ms.map V.int))/\SzK ms/\∀ (room f1 f2:Int) (ps qs:List Int) (x1 x2 c1 c2 r:Addr) (H':Hp),Ext H H'->H' r=some (.tup [.ref x1,.ref x2,.ref c1,.ref c2])->aE C H' x1 room f1 ((ms.zip ps).map aB)->aE C H' x2 room f2 ((ms.zip qs).map aB)->H' c1=some (.lst ((af f1 (ms.zip ps)).map V.int))->H' c2=some (.lst ((af f2 (ms.zip qs)).map V.int))->JS ms room f1 ps->JS ms room f2 qs->1<=room->room<=4096->(af f1 (ms.zip ps)).Nodup->Q (.ref r) H'
def FL(K:W.Frag)(a:Addr)(ns:List Int)(C:Addr):Sp:=λ vs H Q E=>∃ (p:Addr) (l:Addr),vs=[.ref p,.ref l]/\(zG K a ns C p l H Q E)
def JF(K:W.Frag)(a:Addr)(ns:List Int)(C:Addr)(p:Addr)(l:Addr)(H:Hp)(Q:VK)(E:XK):FL K a ns C [.ref p,.ref l] H Q E=(zG K a ns C p l H Q E):=gN (f:=λ (p:Addr) (l:Addr)=>[.ref p,.ref l]) (λ _ _ _ _ h=>by cases h;exact⟨rfl,rfl⟩) p l
def tM(T:Tx K mg t)(a:Addr)(ns:List Int):bj P w K mg base CX0 8 t.a_IX t.d_IX ["_law_script", "_law_sizes_here"] (FL K a ns t.a_Vm):=by
 have G_Eb:=%[er|46] a ns;have G_Bf:=%[cZ|46];have G_Ec:=%[rE|46] a ns;have G_Bg:=%[mj|46] a ns;have G_DV:=%[ph|46];have G_Ed:=%[rF|46];have G_DW:=%[pk|46];have G_wM:=%[dn|46];refine T.F_IX.ok bC (λ _ _ _ _ h=>gO h λ _ _=>rfl) (λ c A o s H vs Q E hr h=>?_)
 ·obtain⟨_,l,rfl,rfl,hS,hl,ms,hm,hsz,kk⟩:=h;rename_i a;refine⟨_,%[%[2,bC,%[Ec,%[%[0|0],%[%[1|0]|1]|1]|3]|4],%[%[3,bC,%[Bg,%[%[0|0],%[%[2|0]|1]|1]|3]|4],%[%[4,bC,%[eT,%[Eb,%[%[0|0],%[%[0|2],%[%[0|2]|1]|1]|1]|3],%[DV,%[%[1|0],%[%[2|0]|1]|1]|3]|11]|4],%[%[5,bC,%[eT,%[Eb,%[%[0|0],%[%[0|2],%[%[0|2]|1]|1]|1]|3],%[DV,%[%[1|0],%[%[3|0]|1]|1]|3]|11]|4],%[%[%[(cy hr.units),%[Eb,%[%[0|0],%[%[0|2],%[%[0|2]|1]|1]|1]|3],%[0|2],(au _)|14],%[%[5,bC,%[max,(iR rfl),%[%[bG,%[4|0],%[bY,%[%[%[0|2],%[%[0|2],%[%[fZ,%[0|2]|43]|1]|1]|1]|20],%[Eb,%[%[0|0],%[%[0|2],%[%[0|2]|1]|1]|1]|3],(λ _ _=>rfl)|13]|11],%[%[eT,%[0|2],%[DV,%[%[1|0],%[%[3|0]|1]|1]|3]|11]|1]|1]|6]|4]|10],(@aq _)|17],%[%[6,bC,%[max,(iR rfl),%[%[bG,%[4|0],%[Ed,%[%[1|0],%[%[2|0]|1]|1]|3]|11],%[%[bG,%[5|0],%[Ed,%[%[1|0],%[%[3|0]|1]|1]|3]|11]|1]|1]|6]|4],%[%[7,bC,%[bG,%[bG,%[6|0],%[0|2]|11],%[Eb,%[%[0|0],%[%[0|2],%[%[0|2]|1]|1]|1]|3]|11]|4],%[%[8,bC,%[T.mk_View,G_wM,(hr.mono ⋯),∅,T.m_Vm,T.b_wM,.nil,aZ,%[%[7|0],%[%[4|0],%[(@jr _ _ _ _ _ _ _ _ rfl ∅ T.z_list ∅ T.z_zip %[%[1|0],%[%[2|0]|1]|1] ∅ ∅ ∅ ∅)|1]|1]|1],⋯,∅,∅|45]|4],%[%[9,bC,%[T.mk_View,G_wM,(hr.mono ⋯),∅,T.m_Vm,T.b_wM,.nil,aZ,%[%[7|0],%[%[5|0],%[(@jr _ _ _ _ _ _ _ _ rfl ∅ T.z_list ∅ T.z_zip %[%[1|0],%[%[3|0]|1]|1] ∅ ∅ ∅ ∅)|1]|1]|1],⋯,∅,∅|45]|4],%[%[%[%[%[8|0],%[%[9|0],%[%[DW,%[%[4|0],%[%[1|0],%[%[2|0]|1]|1]|1]|3],%[%[DW,%[%[5|0],%[%[1|0],%[%[3|0]|1]|1]|1]|3]|1]|1]|1]|1]|28]|12]|10]|9]|9]|9]|9]|9]|9]|9]|9]|9],?_⟩;rw [show aw ["_law_script", "_law_sizes_here", "_law_paces", "_law_others_here", "_law_first", "_law_begin", "_law_last", "_law_room", "_law_one", "_law_other"] [.ref a,.ref l]=[some (.ref a),some (.ref l),none,none,none,none,none,none,none,none] from rfl];clear G_Eb G_Bf G_Ec G_Bg G_DV G_Ed G_DW G_wM;have h8:=hsz.pos.2.1;have d0:=hsz.pos.2.2;have m6:=λ (_:Unit)=>hsz.pos.1;exists kk;ac_rfl;rw [ES];refine⟨rfl,hS,hl,ms,hm,hsz,λ ps r1 H2 e2 h2 c3 d4=>?_⟩;exists d4;have c4:=e2.2 K a _ hS;have d5:=e2.at hm;have aS:=c3.1;ac_rfl;rw [ER];refine⟨rfl,c4,hl,ms,ps,h2,aS,by omega,λ qs r3 H3 e3 h3 c5=>?_⟩;have c6:=e3.2 K a _ c4;have a3:=e3.at d5;have a4:=e3.at h2;have aX:=c5.1;obtain⟨S1,S2,b1,b2,b3,b4,b5,b6,b7⟩:=zW hsz c3 c5;exists c3;exists c5;exists aS;exists aX;exists hsz;have e0:=e2.trans e3;clear h2 d5 c4 e2 e3 hS hm;ac_rfl;rw [bz];refine⟨c6,hl,⟨by decide,by decide⟩,by decide,λ d1 e1 fa=>?_⟩;ac_rfl;rw [sX];refine⟨ms,ps,a3,a4,m6 (),h8,aS (),λ H4 e4=>?_⟩;have c7:=e4.2 K a _ c6;ac_rfl;rw [bz];refine⟨c7,hl,⟨by decide,by decide⟩,by decide,λ d2 fo fu=>?_⟩;ac_rfl;rw [sX];refine⟨ms,qs,e4.at a3,e4.at h3,m6 (),h8,aX (),λ H5 e5=>?_⟩;have bt:=e5.2 K a _ c7;have bS:=e4.trans e5;obtain⟨f1,hf1⟩:∃ f,d1 - aJ (ms.zip ps)=f:=⟨_,rfl⟩;obtain⟨g2,hg2⟩:∃ f,d2 - aJ (ms.zip qs)=f:=⟨_,rfl⟩;clear c6 c7;simp! only [-pZ];refine uF (λ σ' H'=>∃ f2:Int,σ'=[some (.ref a),some (.ref l),some (.ref r1),some (.ref r3),some (.int f1),some (.int f2),none,none,none,none]/\Ext H5 H'/\0<=f2+aJ (ms.zip qs)/\f2+aG (ms.zip qs)<=13+S1+S2) (λ hc hn=>?_) ?_
  ·exists hn;ac_rfl;rw [bz];refine⟨bt,hl,⟨by decide,by decide⟩,by decide,λ g g0 g1=>?_⟩
   by_cases hg:g=0
   ·ac_rfl;intro q6 H6 fv e6 h6;have cf:=e6.2 K a _ bt;clear fv;ac_rfl;rw [bz];refine⟨cf,hl,⟨by decide,by decide⟩,by decide,λ x x0 x1=>?_⟩;ac_rfl;refine iN (λ j=>-1<=j/\j<=1) x0 x1 (λ v hv=>?_) λ j hj=>?_
    ·simp only [Q1,QR,Rm] at hv
     rcases hv with rfl|rfl|rfl<;>exact⟨_,rfl,by decide⟩
    clear h6;ac_rfl;rw [sX];refine⟨ms,qs,(bS.trans e6).at a3,(bS.trans e6).at h3,m6 (),h8,aX (),λ H7 e7=>?_⟩;have fx:=hn () [some (.ref a),some (.ref l),some (.ref r1),some (.ref r3),some (.int f1),some (.int (if f1+j < 0 - aJ (ms.zip qs) then 0 - aJ (ms.zip qs) else f1+j)),none,none,none,none] H7 ⟨_,rfl,e6.trans e7,by split<;>omega,by split<;>omega⟩;clear hn;ac_rfl
   ·have fx:=hn () [some (.ref a),some (.ref l),some (.ref r1),some (.ref r3),some (.int f1),some (.int g2),none,none,none,none] H5 ⟨g2,rfl,Ext.refl _,by omega,by omega⟩;clear hn;ac_rfl
  rintro _ H6 ⟨f2,rfl,e6,d6,fy⟩;have cm:=bS.trans e6;have cS:=cm.at a3;have a5:=cm.at a4;have a6:=cm.at h3;have cf:=e6.2 K a _ bt;have lo1:0<=f1+aJ (ms.zip ps):=by omega
  have f3:f1+aG (ms.zip ps)<=12+S1:=by omega
  clear bt e4 e5 e6 bS a3 a4 h3 hf1 hg2;ac_rfl;rw [zx];refine⟨ms,ps,cS,a5,m6 (),h8,aS (),λ H7 e7=>?_⟩;ac_rfl;rw [zx];refine⟨ms,qs,e7.at cS,e7.at a6,m6 (),h8,aX (),λ H8 e8=>?_⟩;have a7:=e7.trans e8;have f5:=a7.2 K a _ cf;have c8:=a7.at cS;have d7:=a7.at a5;have cT:=a7.at a6;obtain⟨la,hla⟩:∃ la,(if f1+aG (ms.zip ps) < f2+aG (ms.zip qs) then f2+aG (ms.zip qs) else f1+aG (ms.zip ps))=la:=⟨_,rfl⟩
  have f6:f1+aG (ms.zip ps)<=la/\f2+aG (ms.zip qs)<=la/\la<=13+S1+S2:=by
   rw [←hla]
   split<;>omega
  clear cS a5 a6 cf e7;ac_rfl;rw [bz];refine⟨f5,hl,⟨by decide,by decide⟩,by decide,λ d3 hh hk=>?_⟩;obtain⟨room,hroom⟩:∃ r,la+1+d3=r:=⟨_,rfl⟩;have de:1<=room:=by omega
  have dr:room<=4096:=by omega
  have o1:JS ms room f1 ps:=⟨aS (),lo1,by omega⟩;have o2:JS ms room f2 qs:=⟨aX (),d6,by omega⟩;have v1:=o1.view (hsz ()) de dr;have v2:=o2.view (hsz ()) de dr;exists o1;exists o2;clear hla f6 lo1 f3 d6 fy b1 b2 b3 b4 b5 b6 b7 e1 fa fo fu;ac_rfl;rw [FG];intro D1 f7 H9 f9 e9 h9 d8;have t9:=yt d8;have d9:=e9.at c8;have c0:=e9.at cT;clear d8 f9;ac_rfl;intro x1 ea G1 eb ec ei g1 k1 gs;rw [iS];refine⟨ea,ms.zip ps,k1,aP.ext ⟨f7,h9,t9⟩ g1,v1,λ G2 D2 ej gx a8 el=>?_⟩;have eg:=ej H9 g1 eb;have dy:aE t.a_Vm G2 x1 room f1 ((ms.zip ps).map aB):=⟨ea,D2,a8,el⟩;have gy:=e9.trans eg;have en:=eg.at d9;have dz:=eg.at c0;clear h9 t9 d9 c0 k1 gs eb ec ei g1 ej gx a8 el eg;ac_rfl;rw [FG];intro D3 gB G3 gS g3 k3 ep;have t3:=yt ep;clear ep gS;ac_rfl;intro x2 et G4 a8 ew ey g4 k4 gW;rw [iS];refine⟨et,ms.zip qs,k4,aP.ext ⟨gB,k3,t3⟩ g4,v2,λ G5 D5 ez g5 eB eH=>?_⟩;have eM:=g3.trans (ez G3 g4 a8);have hb:aE t.a_Vm G5 x2 room f2 ((ms.zip qs).map aB):=⟨et,D5,eB,eH⟩;have a9:=gy.trans eM;replace dy:=dy.ext eM;clear k3 t3 k4 gW a8 ew ey g4 ez g5 eB eH en dz;ac_rfl;rw [zz];refine⟨ms,ps,a9.at c8,a9.at d7,m6 (),h8,aS (),d0,λ c1 G6 g6 k6=>?_⟩;ac_rfl;rw [zz];refine⟨ms,qs,(a9.trans g6).at c8,(a9.trans g6).at cT,m6 (),h8,aX (),d0,λ c2 G7 g7 k7=>?_⟩;ac_rfl;intro r G8 ho g8 k8;exact kk () room f1 f2 ps qs x1 x2 c1 c2 r G8 (e0.trans (cm.trans (a7.trans (a9.trans (g6.trans (g7.trans g8)))))) k8 (dy.ext (g6.trans (g7.trans g8))) (hb.ext (g6.trans (g7.trans g8))) ((g7.trans g8).at k6) (g8.at k7) (o1 ()) (o2 ()) de dr ((d4 ()).nodup (λ n hn=>by have:=m6 () n hn;omega) (aS ()) f1)
def Dv{ws:List Int}{i j:Nat}{c:Int}(h:ws.Nodup)(aS:i < j)(h1:ws[i]? = some c)(h2:ws[j]? = some c):False:=by
 obtain⟨a,ha⟩:=QD.mp h1;obtain⟨b,hb⟩:=QD.mp h2;have:=(Tz h).mp (ha.trans hb.symm);omega
abbrev qW(C:Addr)(v:Addr)(H:Hp)(Q:VK)(E:XK):Prop:=∃ (room first:Int) (axs:List (Int × Int)),aE C H v room first axs/\fh axs/\ae (axs.map λ a=>a.1)<=4096/\((af first axs).Nodup->∀ H',Ext H H'->Q .non H')/\(∀ (i j:Nat) (c:Int) (r p q:Addr) (H':Hp),i < j->(af first axs)[i]? = some c->(af first axs)[j]? = some c->Ext H H'->H' r=some (.tup [.ref p,.ref q])->H' p=some (.tup ((ao (axs.map λ a=>a.1) (i:Int)).map V.int))->H' q=some (.tup ((ao (axs.map λ a=>a.1) (j:Int)).map V.int))->Q (.ref r) H')
def sy(C:Addr):Sp:=λ vs H Q E=>∃ (v:Addr),vs=[.ref v]/\(qW C v H Q E)
def BN(C:Addr)(v:Addr)(H:Hp)(Q:VK)(E:XK):sy C [.ref v] H Q E=(qW C v H Q E):=lX (f:=λ (v:Addr)=>[.ref v]) (λ _ _ h=>by cases h;exact rfl) v
def rC(T:Tx K mg t):bj P w K mg base CX0 5 t.a_D9 t.d_D9 ["view"] (sy t.a_Vm):=by
 have G_Bo:=%[bR|46];have G_Bk:=%[bQ|46];have G_IU:=%[tH|46];refine T.F_D9.ok fD (λ _ _ _ _ h=>lU h λ _=>rfl) (λ c A o s H vs Q E hr h=>?_)
 ·obtain⟨v,rfl,room,first,axs,vo,aX,hc,kN,kT⟩:=h;exists kN;exists kT;obtain⟨dx,l,hv,_⟩:=vo.ob;have a8:=hv;have c1:=T.cl_View
  have f3:=vn room first l (m := "cells") nofun
  have f4:=vn room first l (m := "sizes") nofun
  refine⟨_,%[%[1,fD,(@iH _ _)|4],%[%[QT,rfl,(@Hl _ _ _ _ _ _ _ _ ∅ T.z_enumerate %[%[%[0|0],T.cl_View,T.mt_View_cells,G_Bo,(hr.mono ⋯),T.b_Bo,.nil,aZ,∅|23]|1] ∅),(%[(2),rfl,%[%[2,fD|5],%[%[3,fD|5],(@aL _),∅|16],∅|16],∅,∅|26].mono λ _ _ _ _ h=>b0 h),%[%[%[(Fm (fN hr.units)),%[3|0],%[1|0],(by with_unfolding_all rfl)|14],%[%[%[%[%[IU,%[%[%[0|0],T.cl_View,T.mt_View_sizes,G_Bk,(hr.mono ⋯),T.b_Bk,.nil,aZ,∅|23],%[(@yN _ _ _ _ _ _ (fN hr.units) %[1|0] %[3|0] (λ _ _=>rfl))|1]|1]|3],%[%[IU,%[%[%[0|0],T.cl_View,T.mt_View_sizes,G_Bk,(hr.mono ⋯),T.b_Bk,.nil,aZ,∅|23],%[%[2|0]|1]|1]|3]|1]|1]|28]|12]|10],(@aq _)|17],%[(@km _ _ _ _ _ _ _ _ _ (fN hr.units) %[1|0] %[3|0] %[2|0] rfl)|10]|9],(by intros;rfl)|21],%[%[(@mF _ _ _)|12]|10]|9]|9],?_⟩;rw [show aw ["view", "seen", "number", "cell"] [.ref v]=[some (.ref v),none,none,none] from rfl];clear G_Bo G_Bk G_IU;ac_rfl;intro d H1 b3 e1 h1;have a9:=e1.at hv;ac_rfl;rw [dI];refine⟨room,first,axs,vo.ext e1,aX,λ _ r2 H2 c3 e2 h2=>?_,by omega⟩
  have b4:((af first axs).length:Int)=ae (axs.map λ a=>a.1):=aF first axs λ b hb=>(aX.2 b hb).1
  generalize af first axs=cs at h2 kN kT b4
  have bt:=e2.at h1;have c4:=e2.at a9;ac_rfl;have hsz:=aX.sizes;have c5:cs.length<=4096:=by omega
  have b5:=e1.trans e2;clear h1 a9 hv;refine EC (λ i σ H'=>∃ (kvs:List (Key × V)) (v2 v3:Option V),σ=[some (.ref v),some (.ref d),v2,v3]/\Ext H H'/\H' r2=some (.lst (cs.map V.int))/\H' d=some (.dK kvs)/\kvs.length<=i/\(cs.take i).Nodup/\(∀ c,eP kvs (.inl c)=none->c ∉ cs.take i)/\∀ c x,eP kvs (.inl c)=some x->∃ k:Nat,k < i/\x=.int (k:Int)/\cs[k]? = some c) ⟨[],none,none,rfl,b5,h2,bt,QK _,Ta,λ c _=>QR,λ c x h=>by cases h⟩ (λ i σ H' ⟨_,_,_,_,_,h,_⟩=>h) ?_ ?_
  ·rintro i u p _ H3 H4 hi ⟨kvs,v2,v3,rfl,e3,h3,bS,b6,a3,hB,hC⟩ c6 e4 h4;rw [QL] at hi;obtain⟨c,a4,rfl⟩:=QJ.mp hi;have c7:i < cs.length:=(QD.mp a4).1;have a5:=e4.at bS;have a6:=e4.at h3;have a7:=e3.trans e4;have b1:=a7.at a8;clear hi;simp! only [↓aA];refine E8 (k:=.inl c) a5 ?_
   cases hvv:eP kvs (.inl c) with
   | some x=>
    obtain⟨k,b7,rfl,cf⟩:=hC c x hvv;have c2:k < cs.length:=by omega
    clear kN hB hC a3;ac_rfl;rw [cB];refine⟨room,first,axs,vo.ext a7,aX.1,λ r5 H5 c8 e5 h5=>?_⟩;have cm:=e5.at a5;have b2:=e5.at b1;clear a5 b1;ac_rfl;refine E9 (k:=.inl c) cm hvv ?_;ac_rfl;rw [lF];refine⟨_,h5,hsz,by omega,by omega,?_⟩;rw [uy];intro r6 H6 de e6 h6;have dr:=e6.at b2;clear b2;ac_rfl;rw [cB];refine⟨room,first,axs,vo.ext (a7.trans (e5.trans e6)),aX.1,λ r7 H7 dy e7 h7=>?_⟩;ac_rfl;rw [lF];refine⟨_,h7,hsz,by omega,by omega,?_⟩;rw [uy];intro r8 H8 dz e8 h8;ac_rfl;intro r9 H9 d0 e9 h9;exact kT () k i c r9 r6 r8 H9 b7 cf a4 (a7.trans (e5.trans (e6.trans (e7.trans (e8.trans e9))))) h9 ((e7.trans (e8.trans e9)).at h6) (e9.at h8)
   | none=>
    have cS:kvs.length < sizeLine:=eU %[0|8];have cT:r2 ≠ d:=λ z=>by rw [z,a5] at a6;cases a6
    clear kN kT;ac_rfl;refine pT (k:=.inl c) a5 cS ?_;refine⟨_,_,_,rfl,a7.put b3,by rw [ah cT];exact a6,ar,?_,?_,λ c' aS hm=>?_,λ c' x aS=>?_⟩
    ·rw [uR _ hvv,QX];simp;omega
    ·rw [RD,a4];exact RL.mpr ⟨a3,by simp,λ a ha b hb=>by rw [UD,QF] at hb;subst hb;exact λ e=>hB _ hvv (e ▸ ha)⟩
    ·rw [gw] at aS;split at aS
     ·cases aS
     ·rename_i c0;rw [RD,a4] at hm
      rcases Q6.mp hm with hm|hm
      ·exact hB c' aS hm
      ·rw [UD,QF] at hm;exact c0 (by rw [hm])
    ·rw [gw] at aS;split at aS
     ·rename_i he;cases aS;cases he;exact⟨i,RU _,rfl,a4⟩
     ·obtain⟨k,k1,k2,k3⟩:=hC c' x aS;exact⟨k,by omega,k2,k3⟩
  ·rintro _ H3 ⟨kvs,v2,v3,rfl,e3,h3,bS,b6,a3,hB,hC⟩;rw [QE,Rz] at a3;have k':=kN () a3 H3 e3;clear kN kT;ac_rfl
abbrev qY(C:Addr)(u:Addr)(v:Addr)(H:Hp)(Q:VK)(E:XK):Prop:=∃ (room f1 f2:Int) (A B:List (Int × Int)),aE C H u room f1 A/\aE C H v room f2 B/\Q .non H
def sD(C:Addr):Sp:=λ vs H Q E=>∃ (u:Addr) (v:Addr),vs=[.ref u,.ref v]/\(qY C u v H Q E)
def BO(C:Addr)(u:Addr)(v:Addr)(H:Hp)(Q:VK)(E:XK):sD C [.ref u,.ref v] H Q E=(qY C u v H Q E):=gN (f:=λ (u:Addr) (v:Addr)=>[.ref u,.ref v]) (λ _ _ _ _ h=>by cases h;exact⟨rfl,rfl⟩) u v
def lM(T:Tx K mg t):bj P w K mg base CX0 1 t.a_wU t.d_wU ["one", "other"] (sD t.a_Vm):=by
 refine T.F_wU.ok mq (λ _ _ _ _ h=>gO h λ _ _=>rfl) (λ c A o s H vs Q E hr h=>?_)
 ·obtain⟨u,v,rfl,room,f1,f2,A,B,vu,vv,k⟩:=h;obtain⟨dx,D,hu,_⟩:=vu.ob;obtain⟨dy,D2,hv,_⟩:=vv.ob;have c1:=T.cl_View;have c4:=T.na_View_room;have g1:=fb room f1 D;have g2:=fb room f2 D2;refine⟨_,%[%[%[(c9 hr.units),%[%[0|0],rfl|27],%[%[1|0],rfl|27],(au _)|14],%[(@cj _ _)|10],(@aq _)|17]|10],?_⟩;rw [show aw ["one", "other"] [.ref u,.ref v]=[some (.ref u),some (.ref v)] from rfl];ac_rfl
abbrev nz(C:Addr)(u:Addr)(v:Addr)(H:Hp)(Q:VK)(E:XK):Prop:=∃ (r1 r2 f1 f2:Int) (A B:List (Int × Int)),aE C H u r1 f1 A/\aE C H v r2 f2 B/\A.length<=8/\(A.map λ a=>a.1)=(B.map λ a=>a.1)/\∀ H',Ext H H'->Q .non H'
def ow(C:Addr):Sp:=λ vs H Q E=>∃ (u:Addr) (v:Addr),vs=[.ref u,.ref v]/\(nz C u v H Q E)
def nc(C:Addr)(u:Addr)(v:Addr)(H:Hp)(Q:VK)(E:XK):ow C [.ref u,.ref v] H Q E=(nz C u v H Q E):=gN (f:=λ (u:Addr) (v:Addr)=>[.ref u,.ref v]) (λ _ _ _ _ h=>by cases h;exact⟨rfl,rfl⟩) u v
def cQ(T:Tx K mg t):bj P w K mg base CX0 2 t.a_qD t.d_qD ["to", "source"] (ow t.a_Vm):=by
 have G_Bk:=%[bQ|46];refine T.F_qD.ok gv (λ _ _ _ _ h=>gO h λ _ _=>rfl) (λ c A o s H vs Q E hr h=>?_)
 ·obtain⟨u,v,rfl,r1,r2,f1,f2,A,B,vu,vv,h8,hs,k⟩:=h;obtain⟨dx,D,hu,_⟩:=vu.ob;obtain⟨dy,D2,hv,_⟩:=vv.ob;have c1:=T.cl_View;have g1:=vn r1 f1 D (m := "sizes") nofun;have g2:=vn r2 f2 D2 (m := "sizes") nofun;refine⟨_,%[%[%[(c9 hr.units),%[%[0|0],T.cl_View,T.mt_View_sizes,G_Bk,(hr.mono ⋯),T.b_Bk,.nil,aZ,∅|23],%[%[1|0],T.cl_View,T.mt_View_sizes,G_Bk,(hr.mono ⋯),T.b_Bk,.nil,aZ,∅|23],(au _)|14],%[(@cj _ _)|10],(@aq _)|17]|10],?_⟩;rw [show aw ["to", "source"] [.ref u,.ref v]=[some (.ref u),some (.ref v)] from rfl];clear G_Bk;have hl:B.length<=8:=by have:=RS List.length hs;rw [QE,QE] at this;omega
  exists k;exists hs;ac_rfl;rw [cB];refine⟨r1,f1,A,vu,h8,λ q1 H1 aS e1 h1=>?_⟩;have a4:=e1.at hv;clear aS;ac_rfl;rw [cB];refine⟨r2,f2,B,vv.ext e1,hl,λ q2 H2 aX e2 h2=>?_⟩;have a3:=e2.at h1;rw [←hs ()] at h2;have k':=k () H2 (e1.trans e2);clear k aX h1;ac_rfl
abbrev qZ(C:Addr)(v:Addr)(H:Hp)(Q:VK)(E:XK):Prop:=∃ (room first:Int) (axs:List (Int × Int)),aE C H v room first axs/\fh axs/\ae (axs.map λ a=>a.1)<=4096/\(af first axs).Nodup/\∀ H',Ext H H'->Q .non H'
def sE(C:Addr):Sp:=λ vs H Q E=>∃ (v:Addr),vs=[.ref v]/\(qZ C v H Q E)
def BP(C:Addr)(v:Addr)(H:Hp)(Q:VK)(E:XK):sE C [.ref v] H Q E=(qZ C v H Q E):=lX (f:=λ (v:Addr)=>[.ref v]) (λ _ _ h=>by cases h;exact rfl) v
def lL(T:Tx K mg t):bj P w K mg base CX0 6 t.a_wW t.d_wW ["view"] (sE t.a_Vm):=by
 have G_D9:=%[rC|46];refine T.F_wW.ok gX (λ _ _ _ _ h=>lU h λ _=>rfl) (λ c A o s H vs Q E hr h=>?_)
 ·obtain⟨v,rfl,room,first,axs,vo,aX,hc,aS,kN⟩:=h;refine⟨_,%[%[1,gX,%[D9,%[%[0|0]|1]|3]|4],%[%[%[oJ,%[1|0],(@mF _ _ _),(au _)|14],%[(@cj _ _)|10],(@aq _)|17]|10]|9],?_⟩;rw [show aw ["view", "found"] [.ref v]=[some (.ref v),none] from rfl];clear G_D9;exists kN;ac_rfl;rw [BN];refine⟨room,first,axs,vo,aX,hc,λ _ H1 e1=>?_,λ i j c r p q H1 a3 hi hj e1 a4 a5 a6=>(Dv aS a3 hi hj).elim⟩;have k':=kN () H1 e1;clear kN aS;ac_rfl
def uS{κ:Type}[DecidableEq κ](kvs:List (κ × V))(k:κ)(v:V):(lY kvs k v).length<=kvs.length+1:=by
 unfold lY;split
 ·rw [QE];omega
 ·rw [QX];simp
structure vM(ws rs:List Int)(ys:List V)(i:Nat)(kvs:List (Key × V)):Prop where
 len:kvs.length<=i
 get:∀ c x,eP kvs (.inl c)=some x->∃ n,n < i/\ws[n]? = some c/\rs[n]? ≠ some c/\ys[n]? = some x
 has:∀ n c,n < i->ws[n]? = some c->rs[n]? ≠ some c->eP kvs (.inl c) ≠ none
def vM.nil{ws rs:List Int}{ys:List V}:vM ws rs ys 0 []:=⟨QK _,(λ c x h=>by cases h),λ n c h=>absurd h (Uj _)⟩
def vM.skip{ws rs:List Int}{ys:List V}{i:Nat}{kvs:List (Key × V)}{c:Int}(h:vM ws rs ys i kvs)(hw:ws[i]? = some c)(hr:rs[i]? = some c):vM ws rs ys (i+1) kvs:=by
 refine⟨by have:=h.len;omega,λ c x hc=>?_,λ n c' hn h1 h2=>?_⟩
 ·obtain⟨n,a,b⟩:=h.get c x hc;exact⟨n,by omega,b⟩
 ·by_cases hni:n=i
  ·subst hni;rw [hw] at h1;cases h1;exact absurd hr h2
  ·exact h.has n c' %[0|8] h1 h2
def vM.put{ws rs:List Int}{ys:List V}{i:Nat}{kvs:List (Key × V)}{c d:Int}{u:V}(h:vM ws rs ys i kvs)(hw:ws[i]? = some c)(hr:rs[i]? = some d)(aS:¬ c=d)(hu:ys[i]? = some u):vM ws rs ys (i+1) (lY kvs (.inl c) u):=by
 refine⟨by have:=h.len;have:=uS kvs (.inl c) u;omega,λ c' x hc=>?_,λ n c' hn h1 h2=>?_⟩
 ·rw [gw] at hc;split at hc
  ·rename_i he;cases hc;cases he;exact⟨i,RU _,hw,λ e=>aS (by rw [hr] at e;exact(Q2 e).symm),hu⟩
  ·obtain⟨n,a,b⟩:=h.get c' x hc;exact⟨n,by omega,b⟩
 ·rw [gw];split
  ·exact TH _
  ·rename_i aX
   by_cases hni:n=i
   ·subst hni;rw [hw] at h1;cases h1;exact absurd rfl aX
   ·exact h.has n c' %[0|8] h1 h2
abbrev vJ(C:Addr)(u:Addr)(v:Addr)(l:Addr)(H:Hp)(Q:VK)(E:XK):Prop:=∃ (room f1 f2:Int) (A B:List (Int × Int)) (ys:List V),aE C H u room f1 A/\aE C H v room f2 B/\fh A/\fh B/\(A.map λ a=>a.1)=(B.map λ a=>a.1)/\ae (A.map λ a=>a.1)<=4096/\H l=some (.lst ys)/\(ys.length:Int)=ae (A.map λ a=>a.1)/\∀ (d:Addr) (kvs:List (Key × V)) (H':Hp),Ext H H'->H d=none->H' d=some (.dK kvs)->vM (af f1 A) (af f2 B) ys ys.length kvs->Q (.ref d) H'
def x8(C:Addr):Sp:=λ vs H Q E=>∃ (u:Addr) (v:Addr) (l:Addr),vs=[.ref u,.ref v,.ref l]/\(vJ C u v l H Q E)
def EZ(C:Addr)(u:Addr)(v:Addr)(l:Addr)(H:Hp)(Q:VK)(E:XK):x8 C [.ref u,.ref v,.ref l] H Q E=(vJ C u v l H Q E):=B2 (f:=λ (u:Addr) (v:Addr) (l:Addr)=>[.ref u,.ref v,.ref l]) (λ _ _ _ _ _ _ h=>by cases h;exact⟨rfl,rfl,rfl⟩) u v l
def fT(T:Tx K mg t):bj P w K mg base CX0 5 t.a_rL t.d_rL ["to", "source", "spots"] (x8 t.a_Vm):=by
 have G_Bo:=%[bR|46];refine T.F_rL.ok aN (λ _ _ _ _ h=>B3 h λ _ _ _=>rfl) (λ c A o s H vs Q E hr h=>?_)
 ·obtain⟨u,v,l,rfl,room,f1,f2,A,B,ys,vu,vv,hA,hB,hs,hc,hl,c3,k⟩:=h;obtain⟨dx,D,hu,_⟩:=vu.ob;obtain⟨dy,D2,hv,_⟩:=vv.ob;have c1:=T.cl_View;have g1:=vn room f1 D (m := "cells") nofun;have g2:=vn room f2 D2 (m := "cells") nofun;refine⟨_,%[%[3,aN,(@iH _ _)|4],%[%[QT,rfl,(@Hk _ _ _ _ _ _ _ _ _ _ ∅ T.z_zip %[%[2|0],%[%[%[0|0],T.cl_View,T.mt_View_cells,G_Bo,(hr.mono ⋯),T.b_Bo,.nil,aZ,∅|23],%[%[%[1|0],T.cl_View,T.mt_View_cells,G_Bo,(hr.mono ⋯),T.b_Bo,.nil,aZ,∅|23]|1]|1]|1] ∅ ∅),(%[(3),rfl,%[%[4,aN|5],%[%[5,aN|5],%[%[6,aN|5],(@aL _),∅|16],∅|16],∅|16],∅,∅|26].mono λ _ _ _ _ h=>b0 h),%[%[%[(c9 hr.units),%[5|0],%[6|0],(au _)|14],%[(@km _ _ _ _ _ _ _ _ _ (fN hr.units) %[3|0] %[5|0] %[4|0] rfl)|10],(@aq _)|17]|10],(by intros;rfl)|21],%[%[%[3|0]|12]|10]|9]|9],?_⟩;rw [show aw ["to", "source", "spots", "found", "place", "cell", "origin"] [.ref u,.ref v,.ref l]=[some (.ref u),some (.ref v),some (.ref l),none,none,none,none] from rfl];clear G_Bo;exists k;have l1:=aF f1 A λ b hb=>(hA.2 b hb).1;have l2:=aF f2 B λ b hb=>(hB.2 b hb).1;rw [←hs] at l2;ac_rfl;intro d H1 hd e1 h1;have b7:=e1.at hu;have b1:=e1.at hl;ac_rfl;rw [dI];refine⟨room,f1,A,vu.ext e1,hA,λ _ r2 H2 cf e2 h2=>?_,by omega⟩;have cm:=(e1.trans e2).at hv;have b2:=e2.at b1;have bt:=e2.at h1;clear cf b7 b1 h1;ac_rfl;rw [dI];refine⟨room,f2,B,vv.ext (e1.trans e2),hB,λ _ r3 H3 cS e3 h3=>?_,by rw [←hs];omega⟩;have b3:=e3.at h2;have cT:=e3.at b2;have b4:=e3.at bt;have c0:=e1.trans (e2.trans e3);generalize af f1 A=ws at *;generalize af f2 B=rs at *;clear cS cm b2 bt h2 hu hv;ac_rfl;refine EA (xs:=ys) (ys:=ws.map V.int) (us:=rs.map V.int) (λ i σ H'=>∃ (kvs:List (Key × V)) (v4 v5 v6:Option V),σ=[some (.ref u),some (.ref v),some (.ref l),some (.ref d),v4,v5,v6]/\Ext H H'/\H' l=some (.lst ys)/\H' r2=some (.lst (ws.map V.int))/\H' r3=some (.lst (rs.map V.int))/\H' d=some (.dK kvs)/\vM ws rs ys i kvs) ⟨[],none,none,none,rfl,c0,cT,b3,h3,b4,vM.nil⟩ (λ i σ H' ⟨_,_,_,_,_,_,a,b,c,_⟩=>⟨a,b,c⟩) ?_ ?_
  ·rintro i x y z p _ H4 H5 hx hy hz ⟨kvs,v4,v5,v6,rfl,e4,a7,aX,a3,a4,aS⟩ hp e5 h5;rw [QL] at hy hz;obtain⟨wc,hw,rfl⟩:=QJ.mp hy;obtain⟨rc,a8,rfl⟩:=QJ.mp hz;have hi:i < ys.length:=(QD.mp hx).1;have bS:=e5.at a7;have a5:=e5.at aX;have a6:=e5.at a3;have a9:=e5.at a4;have c2:kvs.length < sizeLine:=eU (by have:=aS.len;omega);have b5:=e4.trans e5
   by_cases hne:wc=rc
   ·subst hne;have hn:=aS.skip hw a8;exists hn;clear aS hx hy hz hw a8 a7 aX a3 a4 k hp;simp! only [↓aA];exact⟨kvs,_,_,_,rfl,b5,rfl,hn ()⟩
   ·have hn:=aS.put hw a8 hne hx;exists hn;have n1:l ≠ d:=λ z=>by rw [z,a9] at bS;cases bS
    have n2:r2 ≠ d:=λ z=>by rw [z,a9] at a5;cases a5
    have n3:r3 ≠ d:=λ z=>by rw [z,a9] at a6;cases a6
    clear aS hx hy hz hw a8 a7 aX a3 a4 k hp;simp! only [↓aA];refine pT (k:=.inl wc) a9 c2 ?_;exact⟨_,_,_,_,rfl,b5.put hd,by rw [ah n1];exact bS,by rw [ah n2];exact a5,by rw [ah n3];exact a6,ar,hn ()⟩
  ·rintro _ H4 ⟨kvs,v4,v5,v6,rfl,e4,a7,aX,a3,a4,aS⟩;have b6:min ys.length (min (ws.map V.int).length (rs.map V.int).length)=ys.length:=by rw [QE,QE];omega
   rw [b6] at aS;have k':=k () d kvs H4 e4 hd a4 aS;clear k aS b6;ac_rfl
def bZ(ws rs:List Int)(j:Nat):List (Nat × Nat):=match rs[j]? with
 | some c=>(match ws.findIdx? (λ x=>decide (x=c)) with
  | some i=>if rs[i]? = some c then [] else [(i,j)]
  | none=>[])
 | none=>[]
def aQ(ws rs:List Int)(n:Nat):List (Nat × Nat):=(List.range n).flatMap (bZ ws rs)
def ik(ws rs:List Int)(n:Nat):aQ ws rs (n+1)=aQ ws rs n++bZ ws rs n:=by
 unfold aQ;rw [List.range_succ,List.flatMap_append,List.flatMap_singleton]
def sV{ws:List Int}{c:Int}{n:Nat}(aS:ws.Nodup)(h:ws[n]? = some c):ws.findIdx? (λ x=>decide (x=c))=some n:=by
 obtain⟨hn,he⟩:=QD.mp h;rw [R0];refine⟨hn,Q4 he,λ j hj=>?_⟩;intro aX;have e2:=Rp aX;exact absurd ((Tz aS).mp (e2.trans he.symm)) %[0|8]
def vM.pair{ws rs:List Int}{ys:List V}{kvs:List (Key × V)}{c:Int}{j n:Nat}(h:vM ws rs ys n kvs)(aS:ws.Nodup)(hl:ws.length<=n)(hj:rs[j]? = some c) :
  (eP kvs (.inl c)=none->bZ ws rs j=[])/\∀ x,eP kvs (.inl c)=some x->∃ i,bZ ws rs j=[(i,j)]/\ys[i]? = some x:=by
 refine⟨λ hv=>?_,λ x hv=>?_⟩
 ·unfold bZ;rw [hj]
  show (match ws.findIdx? (λ x=>decide (x=c)) with|some i=>if rs[i]? = some c then [] else [(i,j)]|none=>[])=[]
  cases hf:ws.findIdx? (λ x=>decide (x=c)) with
  | none=>rfl
  | some i=>
   rw [R0] at hf;obtain⟨hi,he,_⟩:=hf;have aX:=Rp he
   by_cases hr:rs[i]? = some c
   ·show (if rs[i]? = some c then [] else [(i,j)])=[]
    rw [Rc hr]
   ·exact absurd hv (h.has i c %[0|8] (by rw [QB hi,aX]) hr)
 ·obtain⟨i,hi,hw,hr,hx⟩:=h.get c x hv;refine⟨i,?_,hx⟩;unfold bZ;rw [hj]
  show (match ws.findIdx? (λ x=>decide (x=c)) with|some i=>if rs[i]? = some c then [] else [(i,j)]|none=>[])=_
  rw [sV aS hw]
  show (if rs[i]? = some c then [] else [(i,j)])=_
  rw [Q5 hr]
def jd(H:Hp)(ys:List V)(ij:Nat × Nat)(y:V):Prop:=∃ q u v,y=.ref q/\H q=some (.tup [u,v])/\ys[ij.1]? = some u/\ys[ij.2]? = some v
def jd.ext{H H':Hp}{ys:List V}{ij:Nat × Nat}{y:V}(h:jd H ys ij y)(e:Ext H H'):jd H' ys ij y:=by
 obtain⟨q,u,v,h1,h2,h3⟩:=h;exact⟨q,u,v,h1,e.at h2,h3⟩
def jd.upd{H:Hp}{ys:List V}{ij:Nat × Nat}{y:V}{r:Addr}{zs:List V}{o:HO}(h:jd H ys ij y)(hr:H r=some (.lst zs)):jd (upd H r o) ys ij y:=by
 obtain⟨q,u,v,h1,h2,h3⟩:=h;exact⟨q,u,v,h1,by rw [ah (λ z=>by rw [z,hr] at h2;cases h2)];exact h2,h3⟩
def nX{α:Type}{R:α->V->Prop}{zs:List α}{z:α}{ys:List V}{y:V}(h:Al R zs ys)(r:R z y):Al R (zs++[z]) (ys++[y]):=by
 refine⟨by rw [QX,QX,h.1];rfl,λ i a b ha hb=>?_⟩
 by_cases hi:i < zs.length
 ·rw [Rw hi] at ha;rw [Rw (by rw [h.1];exact hi)] at hb;exact h.2 i a b ha hb
 ·rw [Rn %[0|8]] at ha;rw [Rn (by rw [h.1];omega),h.1] at hb
  have h0:i - zs.length=0:=by
   have:=(QD.mp ha).1;simp at this;omega
  rw [h0] at ha hb;cases ha;cases hb;exact r
abbrev rm(C:Addr)(u:Addr)(v:Addr)(H:Hp)(Q:VK)(E:XK):Prop:=∃ (room f1 f2:Int) (A B:List (Int × Int)),aE C H u room f1 A/\aE C H v room f2 B/\fh A/\fh B/\(A.map λ a=>a.1)=(B.map λ a=>a.1)/\ae (A.map λ a=>a.1)<=4096/\(af f1 A).Nodup/\∀ (l r:Addr) (ys zs:List V) (H':Hp),Ext H H'->H r=none->H' l=some (.lst ys)->Al (bD H') (bE (A.map λ a=>a.1)) ys->H' r=some (.lst zs)->Al (jd H' ys) (aQ (af f1 A) (af f2 B) (af f2 B).length) zs->Q (.ref r) H'
def sM(C:Addr):Sp:=λ vs H Q E=>∃ (u:Addr) (v:Addr),vs=[.ref u,.ref v]/\(rm C u v H Q E)
def BU(C:Addr)(u:Addr)(v:Addr)(H:Hp)(Q:VK)(E:XK):sM C [.ref u,.ref v] H Q E=(rm C u v H Q E):=gN (f:=λ (u:Addr) (v:Addr)=>[.ref u,.ref v]) (λ _ _ _ _ h=>by cases h;exact⟨rfl,rfl⟩) u v
def mh(T:Tx K mg t):bj P w K mg base CX0 7 t.a_Be t.d_Be ["to", "source"] (sM t.a_Vm):=by
 have G_wU:=%[lM|46];have G_qD:=%[cQ|46];have G_wW:=%[lL|46];have G_Vf:=%[qz|46];have G_Bk:=%[bQ|46];have G_Bo:=%[bR|46];have G_rL:=%[fT|46];refine T.F_Be.ok bT (λ _ _ _ _ h=>gO h λ _ _=>rfl) (λ c A o s H vs Q E hr h=>?_)
 ·obtain⟨u,v,rfl,room,f1,f2,A,B,vu,vv,hA,hB,hs,hc,c0,kN⟩:=h;obtain⟨dx,D,hu,_⟩:=vu.ob;obtain⟨dy,D2,hv,_⟩:=vv.ob;have c1:=T.cl_View;have g1:=vn room f1 D (m := "sizes") nofun;have g2:=vn room f2 D2 (m := "cells") nofun;refine⟨_,%[%[%[wU,%[%[0|0],%[%[1|0]|1]|1]|3],∅|19],%[%[%[qD,%[%[0|0],%[%[1|0]|1]|1]|3],∅|19],%[%[%[wW,%[%[0|0]|1]|3],∅|19],%[%[2,bT,%[Vf,%[%[%[0|0],T.cl_View,T.mt_View_sizes,G_Bk,(hr.mono ⋯),T.b_Bk,.nil,aZ,∅|23]|1]|3]|4],%[%[3,bT,%[rL,%[%[0|0],%[%[1|0],%[%[2|0]|1]|1]|1]|3]|4],%[%[4,bT,%[(@cx _)|20]|4],%[%[QT,rfl,%[∅,T.z_zip,%[%[2|0],%[%[%[1|0],T.cl_View,T.mt_View_cells,G_Bo,(hr.mono ⋯),T.b_Bo,.nil,aZ,∅|23]|1]|1],∅,∅|41],(%[(2),rfl,%[%[5,bT|5],%[%[6,bT|5],(@aL _),∅|16],∅|16],∅,∅|26].mono λ _ _ _ _ h=>b0 h),%[%[%[(Fm (fN hr.units)),%[6|0],%[3|0],(by with_unfolding_all rfl)|14],%[%[%[Q3,RG,RF,b8,%[4|0],%[%[%[(@yN _ _ _ _ _ _ (fN hr.units) %[3|0] %[6|0] (λ _ _=>rfl)),%[%[5|0]|1]|1]|28]|1],∅,∅,∅,∅,∅|33],∅|19]|10],(@aq _)|17]|10],(by intros;rfl)|21],%[%[%[4|0]|12]|10]|9]|9]|9]|9]|9]|9]|9],?_⟩;rw [show aw ["to", "source", "spots", "written", "found", "place", "cell"] [.ref u,.ref v]=[some (.ref u),some (.ref v),none,none,none,none,none] from rfl];clear G_wU G_qD G_wW G_Vf G_Bk G_Bo G_rL;exists hs;exists kN;exists c0;ac_rfl;rw [BO];refine⟨room,f1,f2,A,B,vu,vv,?_⟩;ac_rfl;rw [nc];refine⟨room,room,f1,f2,A,B,vu,vv,hA.1,hs (),λ H1 e1=>?_⟩;have d0:=vu.ext e1;have et:=vv.ext e1;ac_rfl;rw [BP];refine⟨room,f1,A,d0,hA,hc,c0 (),λ H2 e2=>?_⟩;have c2:=kN ();have b3:=e1.trans e2;have ew:=b3.at hu;have d1:=vu.ext b3;have ey:=vv.ext b3;exists c2;clear kN d0 et;ac_rfl;rw [cB];refine⟨room,f1,A,d1,hA.1,λ r3 H3 ez e3 h3=>?_⟩;have hsz:dS (A.map λ a=>a.1):=hA.sizes;have c3:=b3.trans e3;have eB:=vu.ext c3;have eH:=vv.ext c3;clear ez ew d1 ey;simp! only [↓nh,↓pR,↓yw];refine⟨λ r4 H4 eM e4 t4=>?_,by omega⟩;obtain⟨ys,h4,c4⟩:=t4;have c5:=c3.trans e4;have d2:=vu.ext c5;have d3:=vv.ext c5;have p1:1<=ae (A.map λ a=>a.1):=aW _ λ m hm=>(hsz.2 m hm).1;have e0:(ys.length:Int)=ae (A.map λ a=>a.1):=by rw [c4.1,eY];omega
  clear eM eB eH h3;ac_rfl;rw [EZ];refine⟨room,f1,f2,A,B,ys,d2,d3,hA,hB,hs (),hc,h4,e0,λ d kvs H5 e5 f5 h5 d4=>?_⟩;have b4:=c5.trans e5;have a3:=e5.at h4;have d5:=c4.imp λ _ _ t=>bD.ext t e5;have d6:=b4.at hv;have fa:=vv.ext b4;have l1:=aF f1 A λ b hb=>(hA.2 b hb).1;have l2:=aF f2 B λ b hb=>(hB.2 b hb).1;rw [←hs ()] at l2;clear d2 d3 h4 c4;ac_rfl;intro r6 H6 b5 e6 h6;have fo:=e6.at d6;have b7:=e6.at a3;have cf:=e6.at h5;have f6:H r6=none:=b4.free b5;have n4:r4 ≠ r6:=λ z=>by rw [z,b5] at a3;cases a3
  have nd:d ≠ r6:=λ z=>by rw [z,b5] at h5;cases h5
  clear d6 a3 h5;ac_rfl;rw [dI];refine⟨room,f2,B,fa.ext e6,hB,λ _ r7 H7 c6 e7 h7=>?_,by rw [←hs ()];omega⟩;have n7:r7 ≠ r6:=λ z=>by rw [z,h6] at c6;cases c6
  have d7:=e7.at b7;have d8:=e7.at cf;have d9:=e7.at h6;have fu:=b4.trans (e6.trans e7);have fv:=e6.trans e7;have ea:=d5.imp λ _ _ t=>bD.ext t fv;generalize af f1 A=ws at *;generalize af f2 B=rs at *;have eb:=λ (_:Unit)=>λ {j:Nat} {c:Int} (hj:rs[j]? = some c)=>d4.pair (c0 ()) %[0|8] hj;clear c6 fo b7 cf h6 d5 b5;ac_rfl;refine ku (ka:=false) (kb:=false) (xs:=ys) (ys:=rs.map V.int) (λ i σ H'=>∃ (zs:List V) (v5 v6:Option V),σ=[some (.ref u),some (.ref v),some (.ref r4),some (.ref d),some (.ref r6),v5,v6]/\Ext H H'/\H' r4=some (.lst ys)/\H' r7=some (.lst (rs.map V.int))/\H' d=some (.dK kvs)/\H' r6=some (.lst zs)/\Al (bD H') (bE (A.map λ a=>a.1)) ys/\zs.length<=i/\Al (jd H' ys) (aQ ws rs i) zs) ⟨[],none,none,rfl,fu,d7,h7,d8,d9,ea,QK _,Al.nil⟩ (λ i σ H' ⟨_,_,_,_,_,a,b,_⟩=>⟨a,b⟩) ?_ ?_
  ·rintro i x y p _ H8 H9 hx hy ⟨zs,v5,v6,rfl,e8,a4,bt,bS,a5,b1,fx,a8⟩ hp e9 h9;rw [QL] at hy;obtain⟨c,ec,rfl⟩:=QJ.mp hy;have hi:i < ys.length:=(QD.mp hx).1;have eg:=e8.trans e9;have cm:=e9.at a4;have cS:=e9.at bt;have a6:=e9.at bS;have cT:=e9.at a5;have c7:=b1.imp λ _ _ t=>bD.ext t e9;have b2:=a8.imp λ _ _ t=>jd.ext t e9;obtain⟨b6,a7⟩:=eb () ec;have c8:=ik ws rs i;have f7:zs.length < sizeLine:=eU %[0|8];exists c8;exists c7;exists b2;exists b6;exists a7;exists hx;clear hy ec a4 bt bS a5 b1 a8 hp ea;simp! only [↓aA];refine E8 (k:=.inl c) a6 ?_
   cases a9:eP kvs (.inl c) with
   | none=>
    have hn:=b6 () a9;have fin:Al (jd H9 ys) (aQ ws rs (i+1)) zs:=by rw [c8 (),hn,Tg];exact b2 ()
    exists fin;clear b6 a7 hn a9;ac_rfl;exact⟨zs,_,_,rfl,eg,rfl,c7 (),by omega,fin ()⟩
   | some x0=>
    obtain⟨i0,ei,ej⟩:=a7 () x0 a9;exists ei;exists ej;have el:=a9;exists a9;clear b6 a7 el;ac_rfl;refine E9 (k:=.inl c) a6 (a9 ()) ?_;ac_rfl;intro fy f9 en aS f3;have aX:=aS.at cT;have de:=aS.at cm;have dr:=aS.at cS;have dz:=aS.at a6;clear en cT cm cS a6;ac_rfl;refine⟨_,_,_,rfl,(eg.trans aS).put f6,by rw [ah n4];exact de,by rw [ah n7];exact dr,by rw [ah nd];exact dz,rfl,?_,?_,?_⟩
    ·exact(c7 ()).imp λ _ _ t=>(bD.ext t aS).upd aX
    ·rw [QX];show _+1<=_;omega
    ·rw [c8 (),ei ()];exact nX ((b2 ()).imp λ _ _ t=>(jd.ext t aS).upd aX) (jd.upd ⟨fy,x0,x,rfl,f3,ej (),hx ()⟩ aX)
  ·rintro _ H8 ⟨zs,v5,v6,rfl,e8,a4,bt,bS,a5,b1,fx,a8⟩;have ep:min ys.length (rs.map V.int).length=rs.length:=by rw [QE];omega
   rw [ep] at a8;have k':=c2 () r4 r6 ys zs H8 e8 f6 a4 b1 a5 a8;clear c2 a8 b1 ep eb d4;ac_rfl
structure Ca(ws:List Int)(i:Nat)(kvs:List (Key × V)):Prop where
 len:kvs.length<=i
 get:∀ c x,eP kvs (.inl c)=some x->∃ n,n < i/\ws[n]? = some c/\x=.int (n:Int)
 has:∀ n c,n < i->ws[n]? = some c->eP kvs (.inl c) ≠ none
def Ca.nil{ws:List Int}:Ca ws 0 []:=⟨QK _,(λ c x h=>by cases h),λ n c h=>absurd h (Uj _)⟩
def Ca.put{ws:List Int}{i:Nat}{kvs:List (Key × V)}{c:Int}(h:Ca ws i kvs)(hw:ws[i]? = some c):Ca ws (i+1) (lY kvs (.inl c) (.int (i:Int))):=by
 refine⟨by have:=h.len;have:=uS kvs (.inl c) (.int (i:Int));omega,λ c' x hc=>?_,λ n c' hn h1=>?_⟩
 ·rw [gw] at hc;split at hc
  ·rename_i he;cases hc;cases he;exact⟨i,RU _,hw,rfl⟩
  ·obtain⟨n,a,b⟩:=h.get c' x hc;exact⟨n,by omega,b⟩
 ·rw [gw];split
  ·exact TH _
  ·rename_i aS
   by_cases hni:n=i
   ·subst hni;rw [hw] at h1;cases h1;exact absurd rfl aS
   ·exact h.has n c' %[0|8] h1
def Ca.none'{ws rs:List Int}{kvs:List (Key × V)}{c:Int}{j n:Nat}(h:Ca ws n kvs)(hl:ws.length<=n)(hj:rs[j]? = some c)(hv:eP kvs (.inl c)=none):bZ ws rs j=[]:=by
 unfold bZ;rw [hj]
 show (match ws.findIdx? (λ x=>decide (x=c)) with|some i=>if rs[i]? = some c then [] else [(i,j)]|none=>[])=[]
 cases hf:ws.findIdx? (λ x=>decide (x=c)) with
 | none=>rfl
 | some i=>
  rw [R0] at hf;obtain⟨hi,he,_⟩:=hf;have aS:=Rp he;exact absurd hv (h.has i c %[0|8] (by rw [QB hi,aS]))
def Aq{ws rs:List Int}{c:Int}{j i:Nat}(aS:ws.Nodup)(hj:rs[j]? = some c)(hi:ws[i]? = some c):bZ ws rs j=if rs[i]? = some c then [] else [(i,j)]:=by
 unfold bZ;rw [hj]
 show (match ws.findIdx? (λ x=>decide (x=c)) with|some i=>if rs[i]? = some c then [] else [(i,j)]|none=>[])=_
 rw [sV aS hi]
def ijL(zs:List (Nat × Nat)):List (Int × Int):=zs.map λ z=>((z.1:Int),(z.2:Int))
def we(ws rs:List Int)(j:Nat):(bZ ws rs j).length<=1:=by
 unfold bZ
 repeat' split
 all_goals simp
def gF(ws rs:List Int):∀ n,(aQ ws rs n).length<=n
 | 0=>QK _
 | n+1=>by
  rw [ik,QX];have:=gF ws rs n;have:=we ws rs n;omega
def Aa{H:Hp}{r q:Addr}{zs:List (Nat × Nat)}{z:Nat × Nat}{ys:List V}(h:Al (bD H) (axL (ijL zs)) ys)(hr:H r=some (.lst ys))(hq:H q=some (.tup [.int (z.1:Int),.int (z.2:Int)])):Al (bD (upd H r (.lst (ys++[.ref q])))) (axL (ijL (zs++[z]))) (ys++[.ref q]):=by
 have e:axL (ijL (zs++[z]))=axL (ijL zs)++[[(z.1:Int),(z.2:Int)]]:=by unfold axL ijL;rw [map_append,map_append];rfl
 rw [e];exact nX (h.imp λ _ _ t=>bD.upd t hr) (bD.upd ⟨q,rfl,hq⟩ hr)
abbrev nE  (p:Addr) (q:Addr) (H:Hp) (Q:VK) (E:XK):Prop:=∃ ws rs:List Int,H p=some (.lst (ws.map V.int))/\H q=some (.lst (rs.map V.int))/\ws.Nodup/\rs.length=ws.length/\ws.length<=60/\∀ (r:Addr) (H':Hp),H r=none->Ext H H'->aP H' r (axL (ijL (aQ ws rs rs.length)))->Q (.ref r) H'
def oC  : Sp:=λ vs H Q E=>∃ (p:Addr) (q:Addr),vs=[.ref p,.ref q]/\(nE  p q H Q E)
def xl  (p:Addr) (q:Addr) (H:Hp) (Q:VK) (E:XK):oC  [.ref p,.ref q] H Q E=(nE  p q H Q E):=gN (f:=λ (p:Addr) (q:Addr)=>[.ref p,.ref q]) (λ _ _ _ _ h=>by cases h;exact⟨rfl,rfl⟩) p q
def pf(T:Tx K mg t):bj P w K mg base CX0 1 t.a_DX t.d_DX ["_law_writes", "_law_reads"] oC:=by
 refine T.F_DX.ok cD (λ _ _ _ _ h=>gO h λ _ _=>rfl) (λ c A o s H vs Q E hr h=>?_)
 ·obtain⟨p,q,rfl,ws,rs,hp,hq,b2,hlen,c6,k⟩:=h;refine⟨_,%[%[2,cD,(@iH _ _)|4],%[%[QT,rfl,%[∅,T.z_range,%[%[len,ak,%[%[0|0]|1]|6]|1],∅|35],%[3,cD|5],%[(@km _ _ _ _ _ _ _ _ _ (fN hr.units) %[2|0] %[bY,%[0|0],%[3|0],(λ _ _=>rfl)|13] %[3|0] rfl)|10],(by intros;rfl)|21],%[%[4,cD,%[(@cx _)|20]|4],%[%[QT,rfl,%[∅,T.z_range,%[%[len,ak,%[%[1|0]|1]|6]|1],∅|35],%[5,cD|5],%[%[6,cD,(@Dq _ _ _ _ _ _ _ (fN hr.units) %[2|0] %[bY,%[1|0],%[5|0],(λ _ _=>rfl)|13] ⟨by rfl,by rfl,by rfl,by rfl⟩)|4],%[%[(PW.pt (@mD _ _ _ _ _ _ _ %[oJ,%[6|0],(@mF _ _ _),(au _)|14] (@mD _ _ _ _ _ _ _ %[(c9 hr.units),%[6|0],%[5|0],(au _)|14] (@kl _ _ _ _ %[(c9 hr.units),%[bY,%[1|0],%[6|0],(λ _ _=>rfl)|13],%[bY,%[0|0],%[6|0],(λ _ _=>rfl)|13],(au _)|14])))),%[%[%[Q3,RG,RF,b8,%[4|0],%[%[%[%[6|0],%[%[5|0]|1]|1]|28]|1],∅,∅,∅,∅,∅|33],∅|19]|10],(@aq _)|17]|10]|9],(by intros;rfl)|21],%[%[%[4|0]|12]|10]|9]|9]|9]|9],?_⟩;rw [show aw ["_law_writes", "_law_reads", "_law_holder", "_law_n", "_law_found", "_law_j", "_law_i"] [.ref p,.ref q]=[some (.ref p),some (.ref q),none,none,none,none,none] from rfl];exists k;exists b2;ac_rfl;intro d H1 hd e1 h1;have b3:=e1.at hp;have b4:=e1.at hq;ac_rfl;refine⟨by omega,by omega,?_⟩;refine hG (λ i σ H'=>∃ (kvs:List (Key × V)) (v3:Option V),σ=[some (.ref p),some (.ref q),some (.ref d),v3,none,none,none]/\Ext H H'/\H' d=some (.dK kvs)/\Ca ws i kvs) ⟨[],none,rfl,e1,h1,Ca.nil⟩ ?_ ?_
  ·rintro i _ H2 hi ⟨kvs,v3,rfl,e2,h2,ho⟩;have cm:i < ws.length:=by have:i < ((ws.length:Int)).toNat:=hi;omega
   obtain⟨c,hc⟩:∃ c,ws[i]? = some c:=⟨_,QB cm⟩;have hn:=ho.put hc;have b5:kvs.length < sizeLine:=eU (by have:=ho.len;omega);have cS:atI (ws.map V.int) (0+(i:Int))=some (V.int c):=by rw [Rv];exact cH (by rw [QL,hc];rfl)
   have a3:=e2.at hp;exists hn;clear ho hc hi k b3 b4 h1;simp! only [↓aA];refine pT (k:=.inl c) h2 b5 ?_;exact⟨_,_,rfl,e2.put hd,ar,by rw [Rv];exact hn ()⟩
  ·rintro _ H2 ⟨kvs,v3,rfl,e2,h2,ho⟩;have a3:=e2.at hp;have a5:=e2.at hq;have a4:((ws.length:Int)).toNat=ws.length:=by omega
   rw [a4] at ho;clear b3 b4 h1 e1 a4;ac_rfl;intro r H3 a6 e3 h3;have cT:=e3.at a3;have c0:=e3.at a5;have bS:=e3.at h2;have c1:=e2.trans e3;have b6:H r=none:=e2.free a6;exists ho;have nd:d ≠ r:=λ z=>by rw [z,a6] at h2;cases h2
   have np:p ≠ r:=λ z=>by rw [z,a6] at a3;cases a3
   have nq:q ≠ r:=λ z=>by rw [z,a6] at a5;cases a5
   clear a3 a5 h2;ac_rfl;refine⟨by omega,by omega,?_⟩;refine hG (λ i σ H'=>∃ (ys:List V) (v5 v6:Option V),σ=[some (.ref p),some (.ref q),some (.ref d),v3,some (.ref r),v5,v6]/\Ext H H'/\H' d=some (.dK kvs)/\H' r=some (.lst ys)/\Al (bD H') (axL (ijL (aQ ws rs i))) ys) ⟨[],none,none,rfl,c1,bS,h3,⟨rfl,λ i z y hz=>by cases hz⟩⟩ ?_ ?_
   ·rintro j _ H4 hj ⟨ys,v5,v6,rfl,e4,a7,h4,al⟩;have c2:j < rs.length:=by have:j < ((ws.length:Int)).toNat:=hj;omega
    obtain⟨c,hc⟩:∃ c,rs[j]? = some c:=⟨_,QB c2⟩;have cS:atI (rs.map V.int) (0+(j:Int))=some (V.int c):=by rw [Rv];exact cH (by rw [QL,hc];rfl)
    have c7:=e4.at hp;have c8:=e4.at hq;have aS:=ik ws rs j
    have de:ys.length<=60:=by
     have:=gF ws rs j;have:=al.1;unfold axL ijL at this;rw [length_map,length_map] at this;omega
    have a8:eP kvs (.inl c)=none->bZ ws rs j=[]:=λ hv=>(ho ()).none' (QK _) hc hv
    have aX:∀ x,eP kvs (.inl c)=some x->∃ n,n < ws.length/\x=.int (n:Int)/\ws[n]? = some c/\bZ ws rs j=if rs[n]? = some c then [] else [(n,j)]:=λ x hv=>by
     obtain⟨n,h1,h2,h3⟩:=(ho ()).get c x hv;exact⟨n,h1,h3,h2,Aq (b2 ()) hc h2⟩
    exists a8;exists aX;exists al;exists aS;exists hc;clear k hj h3 cT c0 bS e2;simp! only [↓aA];refine CH a7 ?_;ac_rfl;refine GN (k:=.inl c) a7 ?_
    cases hvv:eP kvs (.inl c) with
    | none=>
     have hn:=a8 () hvv;have fin:Al (bD H4) (axL (ijL (aQ ws rs (j+1)))) ys:=by rw [aS (),hn,Tg];exact al ()
     exists fin;clear a8 aX hn hvv aS al;rw [UY];ac_rfl;exact⟨_,_,_,rfl,e4,rfl,fin ()⟩
    | some x0=>
     obtain⟨n,hn,rfl,a9,bt⟩:=aX () x0 hvv;clear a8 aX hvv;obtain⟨b,hb⟩:∃ b,rs[n]? = some b:=⟨_,QB %[0|8]⟩;have c4:atI (rs.map V.int) (n:Int)=some (V.int b):=cH (by rw [QL,hb];rfl);have c5:atI (ws.map V.int) (n:Int)=some (V.int c):=cH (by rw [QL,a9];rfl);replace aS:=aS ();rw [bt] at aS;rw [Option.getD_some]
     by_cases hnj:n=j
     ·subst hnj;have b1:rs[n]? = some c:=hc ();rw [Rc b1,Tg] at aS;have fin:Al (bD H4) (axL (ijL (aQ ws rs (n+1)))) ys:=by rw [aS];exact al ()
      exists fin;clear aS bt al a9 hb b1 hc;ac_rfl;rw [Q5 (show ¬ ¬ (n:Int)=0+(n:Int) from λ h=>h (Rv _).symm)];exact⟨_,_,_,rfl,e4,rfl,fin ()⟩
     by_cases hbc:b=c
     ·subst hbc;rw [Rc hb,Tg] at aS;have fin:Al (bD H4) (axL (ijL (aQ ws rs (j+1)))) ys:=by rw [aS];exact al ()
      exists fin;have b7:¬ (n:Int)=0+(j:Int):=by omega
      clear aS bt al a9 hb hc;ac_rfl;exact⟨_,_,_,rfl,e4,rfl,fin ()⟩
     ·rw [Q5 (by rw [hb];intro z;exact hbc (Q2 z))] at aS;exists aS;have b7:¬ (n:Int)=0+(j:Int):=by omega
      have b5:ys.length < sizeLine:=eU %[0|8];clear bt a9 hb hc;ac_rfl;intro g H5 hg e5 h5;have cf:=e5.at h4;have c3:=e5.at a7;ac_rfl;refine⟨_,_,_,rfl,(e4.trans e5).put b6,by rw [ah nd];exact c3,rfl,?_⟩;rw [aS ()];exact Aa (z:=(n,j)) ((al ()).imp λ _ _ t=>bD.ext t e5) cf (by rw [h5,Rv])
   ·rintro _ H4 ⟨ys,v5,v6,rfl,e4,a7,h4,al⟩;have a4:((ws.length:Int)).toNat=rs.length:=by omega
    rw [a4] at al;have k':=k () r H4 b6 e4 ⟨ys,h4,al⟩;clear k al a4;ac_rfl
def uN{b:Int}(hb:0<=b):∀ axs:List (Int × Int),aJ (ba b axs)=aJ axs * b/\aG (ba b axs)=aG axs * b
 | []=>⟨(SK b).symm,(SK b).symm⟩
 | a::r=>by
  obtain⟨i1,i2⟩:=uN hb r;have e:ba b (a::r)=(a.1,a.2 * b)::ba b r:=rfl;rw [e,cp,cq,cp,cq,i1,i2,So,So]
  show min 0 ((a.1 - 1) * (a.2 * b))+_=_/\max 0 ((a.1 - 1) * (a.2 * b))+_=_
  rw [←R1];generalize (a.1 - 1) * a.2=x
  rcases Int.le_total 0 x with hx|hx
  ·have:=Sl hx hb;have m1:min 0 x=0:=by omega
   have m2:max 0 x=x:=by omega
   rw [m1,m2,SK];omega
  ·have:x * b<=0:=Int.mul_nonpos_of_nonpos_of_nonneg hx hb;have m1:min 0 x=x:=by omega
   have m2:max 0 x=0:=by omega
   rw [m1,m2,SK];omega
def ED{room f times:Int}{axs:List (Int × Int)}(h0:0<=f+aJ axs)(h1:f+aG axs < room)(ht:1<=times):0<=f * times+aJ (ba times axs)/\f * times+aG (ba times axs) < room * times:=by
 obtain⟨e1,e2⟩:=uN (show 0<=times by omega) axs;rw [e1,e2,←So,←So];refine⟨Sl h0 %[0|8],?_⟩;have:=QW (show f+aG axs+1<=room by omega) (show 0<=times by omega);rw [So _ 1,Uz] at this;omega
def lC(b m:Int):∀ (axs:List (Int × Int)) (cs:List Int),(ba b axs).foldl bw (cs.map λ c=>c * b+m)=(axs.foldl bw cs).map λ c=>c * b+m
 | [],cs=>rfl
 | a::r,cs=>by
  have e:bw (cs.map λ c=>c * b+m) (a.1,a.2 * b)=(bw cs a).map λ c=>c * b+m:=by
   unfold bw;rw [List.flatMap_map,List.map_flatMap];congr 1;funext c;rw [map_map];congr 1;funext n
   show c * b+m+(n:Int) * (a.2 * b)=(c+(n:Int) * a.2) * b+m
   rw [So,R1];omega
  have e2:ba b (a::r)=(a.1,a.2 * b)::ba b r:=rfl;rw [e2,Sq,Sq,e,lC b m r]
def rM(b m f:Int)(axs:List (Int × Int)):af (f * b+m) (ba b axs)=(af f axs).map λ c=>c * b+m:=lC b m axs [f]
def lp(b:Int)(axs:List (Int × Int)):(ba b (axs.map aB)).map aB=ba b (axs.map aB):=by
 unfold ba;rw [map_map,map_map,map_map];refine List.map_congr_left λ a _=>?_
 show aB ((aB a).1,(aB a).2 * b)=((aB a).1,(aB a).2 * b)
 unfold aB
 show (a.1,if a.1 > 1 then (if a.1 > 1 then a.2 else 0) * b else 0)=_
 split
 ·rfl
 ·rw [SK]
def pP(ns:List Int):Int:=1+gZ ns 15 100000000000000
def B7(ns:List Int):Int:=gZ ns 16 1000000000
def yp(ns:List Int):1<=pP ns/\pP ns<=100000000000000:=by
 have h0:0<=gZ ns 15 100000000000000:=Int.emod_nonneg _ ⋯;have h1:gZ ns 15 100000000000000 < 100000000000000:=Int.emod_lt_of_pos _ ⋯;unfold pP;omega
def MM(ns:List Int):0<=B7 ns/\B7 ns < 1000000000:=⟨R3 _ ⋯,RJ _ ⋯⟩
def ML{room f b m:Int}{axs:List (Int × Int)}(hx:fh axs)(r1:1<=room)(r2:room<=4096)(h0:0<=f+aJ axs)(h1:f+aG axs < room)(hb:1<=b/\b<=100000000000000)(hm:0<=m/\m < 1000000000):p6 (room * b+m) (f * b+m) (ba b axs):=by
 have aS:fh (ba b axs):=jj hx;obtain⟨g1,g2⟩:=eW (ba b axs) λ a ha=>(aS.2 a ha).1;obtain⟨s1,s2⟩:=ED h0 h1 hb.1;have k1:room * b<=4096 * b:=QW r2 %[0|8];have k2:1 * b<=room * b:=QW r1 %[0|8];exact⟨aS,by omega,by omega,by rw [g1];omega,by rw [g2];omega⟩
abbrev vE(K:PySem.W.Frag)(a:Addr)(ns:List Int)(C:Addr)(p:Addr)(v:Addr)(H:Hp)(Q:VK)(E:XK):Prop:=p=a/\SqL K H a (ns.map V.int)/\ns.length<=63/\∃ (room f:Int) (A:List (Int × Int)),aE C H v room f A/\fh A/\1<=room/\room<=4096/\0<=f+aJ A/\f+aG A < room/\∀ (x:Addr) (H':Hp),Ext H H'->aE C H' x (room * pP ns+B7 ns) (f * pP ns+B7 ns) ((ba (pP ns) A).map aB)->Q (.ref x) H'
def xV(K:W.Frag)(a:Addr)(ns:List Int)(C:Addr):Sp:=λ vs H Q E=>∃ (p:Addr) (v:Addr),vs=[.ref p,.ref v]/\(vE K a ns C p v H Q E)
def vf(K:W.Frag)(a:Addr)(ns:List Int)(C:Addr)(p:Addr)(v:Addr)(H:Hp)(Q:VK)(E:XK):xV K a ns C [.ref p,.ref v] H Q E=(vE K a ns C p v H Q E):=gN (f:=λ (p:Addr) (v:Addr)=>[.ref p,.ref v]) (λ _ _ _ _ h=>by cases h;exact⟨rfl,rfl⟩) p v
def tN(T:Tx K mg t)(a:Addr)(ns:List Int):bj P w K mg base CX0 8 t.a_IZ t.d_IZ ["_law_script", "_law_view"] (xV K a ns t.a_Vm):=by
 have G_Eb:=%[iX|46] a ns;have G_wM:=%[dn|46];refine T.F_IZ.ok jA (λ _ _ _ _ h=>gO h λ _ _=>rfl) (λ c A o s H vs Q E hr h=>?_)
 ·obtain⟨_,v,rfl,rfl,hS,hl,room,f,axs,vu,hx,r1,r2,h0,h1,kk⟩:=h;rename_i a;obtain⟨dx,D,hu,tt⟩:=vu.ob;refine⟨_,%[(@gQ _ _ (2) _ _ _ _ jA.nd rfl (Or.inr rfl) %[bG,%[0|2],%[Eb,%[%[0|0],%[%[0|2],%[%[Fn,%[0|2],%[0|2]|11]|1]|1]|1]|3]|11] ∅ %[0|7]),%[%[3,jA,%[Eb,%[%[0|0],%[%[0|2],%[%[Fn,%[0|2],%[0|2]|11]|1]|1]|1]|3]|4],%[%[%[T.mk_View,G_wM,(hr.mono ⋯),∅,T.m_Vm,T.b_wM,.nil,aZ,%[%[bG,%[cP,%[%[1|0],rfl|27],%[2|0]|11],%[3|0]|11],%[%[bG,%[cP,%[%[1|0],rfl|27],%[2|0]|11],%[3|0]|11],%[%[(["_law_size", "_law_pace", "_law_script", "_law_view", "_law_by", "_law_more"]),(2),(aC (aa gE) ["_law_script", "_law_view", "_law_by", "_law_more"] rfl rfl nofun),rfl,%[%[%[1|0],rfl|27]|18],(λ C s₀ H₀ ex pn=>(%[(2),rfl,%[%[(0),_,(show List.Nodup (["_law_size", "_law_pace", "_law_script", "_law_view", "_law_by", "_law_more"]:List Str) from by decide +kernel),rfl,(Or.inl rfl),%[0|7]|15],%[%[(1),_,(show List.Nodup (["_law_size", "_law_pace", "_law_script", "_law_view", "_law_by", "_law_more"]:List Str) from by decide +kernel),rfl,(Or.inl rfl),%[0|7]|15],(@aL _),∅|16],∅|16],∅,∅|26].mono λ _ _ _ _ h=>b0 h)),(λ C s₀ H₀ ex pn=>(@aI _)),(λ C s₀ H₀ ex pn=>%[%[%[0|0],%[%[cP,%[1|0],%[4|0]|11]|1]|1]|28]),(by intros;rfl)|22]|1]|1]|1],⋯,∅,∅|45]|12]|10]|9]|9],?_⟩;rw [show aw ["_law_script", "_law_view", "_law_by", "_law_more"] [.ref a,.ref v]=[some (.ref a),some (.ref v),none,none] from rfl];clear G_Eb G_wM;obtain⟨ys,hD,al⟩:=tt;have hok:=ML hx r1 r2 h0 h1 (yp ns) (MM ns);have hB:=yp ns;exists kk;have c1:=T.cl_View;have c2:=T.na_View_first;have c3:=T.na_View_axes;have c4:=T.na_View_room;have g1:=fb room f D;have g2:=dJ room f D;have g3:=cV room f D;ac_rfl;rw [qR];refine⟨hS,hl,⟨by decide,by decide⟩,by decide,?_⟩;have eB:1+gZ ns 15 100000000000000=pP ns:=rfl;have eM:gZ ns 16 1000000000=B7 ns:=rfl;ac_rfl;rw [qR];refine⟨hS,hl,⟨by decide,by decide⟩,by decide,?_⟩;rw [eM];generalize pP ns=b at *;generalize B7 ns=m at *;have b1:kd room b:=.inr %[0|8];have b2:kd f b:=.inr %[0|8];clear eB eM hS;ac_rfl;have wk:=dE (K:=K) (R:=axP) (λ _ _ _ _ h e=>h.ext e) hD (jH al);have h8:=hx.1;refine dH axs (λ _=>true) axP (λ D a y H'=>∃ q,y=.ref q/\H' q=some (.tup [.int a.1,.int (a.2 * b)])) wk.1 wk.2 (λ D _ y H1 H2 ⟨q,h1,h3⟩ e=>⟨q,h1,e.at h3⟩) (λ D _ y H1 xs o ⟨q,h1,h3⟩ hD=>⟨q,h1,by rw [ah (λ z=>by rw [z,hD] at h3;cases h3)];exact h3⟩) (aj %[0|8]) ?_ ?_
  ·intro D' x y H' N1 N0 ha hD e _ ⟨q,hy,hq⟩ k1 _;subst hy;have aX:=k1 rfl;have b6:kd x.2 b:=.inr %[0|8];clear k1 kk;simp! only [↓dg,↓aO];intro t1 H6 b7 e6 h6;exact aX _ H6 e6 ⟨t1,rfl,h6⟩
  intro D2 zs H2 b3 e2 a3 aS;rw [jc] at aS
  have a6:aP H2 D2 (axL (ba b axs)):=by
   refine⟨zs,a3,by rw [aS.1];unfold axL ba;rw [length_map,length_map],λ i z y hz hy=>?_⟩;unfold axL ba at hz;rw [map_map,getElem?_map] at hz;obtain⟨x,hx,rfl⟩:=Option.map_eq_some_iff.mp hz;obtain⟨q,a7,a8⟩:=aS.2 i x y hx hy;exact⟨q,a7,a8⟩
  clear wk aS a3;ac_rfl;intro x1 a4 G1 a9 b4 b5 ge1 k1 aX;rw [iS];refine⟨a4,ba b axs,k1,a6.ext ge1,hok,λ G2 D3 bt cf bS a5=>?_⟩;have eg:=bt H2 ge1 a9;have kq:=kk () x1 G2 (e2.trans eg) ⟨a4,D3,bS,a5⟩;clear kk a5 hok al;ac_rfl
abbrev zL  (p:Addr) (H:Hp) (Q:VK) (E:XK):Prop:=∃ ns:List Int,H p=some (.lst (ns.map V.int))/\dS ns/\ae ns<=4096/\∀ (r:Addr) (H':Hp),Ext H H'->aP H' r (bE ns)->Q (.ref r) H'
def FT  : Sp:=λ vs H Q E=>∃ (p:Addr),vs=[.ref p]/\(zL  p H Q E)
def JH  (p:Addr) (H:Hp) (Q:VK) (E:XK):FT  [.ref p] H Q E=(zL  p H Q E):=lX (f:=λ (p:Addr)=>[.ref p]) (λ _ _ h=>by cases h;exact rfl) p
def mi(T:Tx K mg t):bj P w K mg base CX0 1 t.a_Bh t.d_Bh ["_law_sizes_here"] FT:=by
 refine T.F_Bh.ok bU (λ _ _ _ _ h=>lU h λ _=>rfl) (λ c A o s H vs Q E hr h=>?_)
 ·obtain⟨p,rfl,ns,hp,hs,hc,kk⟩:=h;refine⟨_,%[%[1,bU,%[%[%[(@cx _)|28]|1]|20]|4],%[%[QT,rfl,%[%[0|0]|18],%[2,bU|5],%[%[3,bU,%[(@cx _)|20]|4],%[%[QT,rfl,%[%[1|0]|18],%[(4),_,bU.nd,rfl,(Or.inr rfl),%[0|7]|15],%[%[%[Q3,S7,S6,iO,%[3|0],%[%[(["_law_k", "_law_sizes_here", "_law_found", "_law_size", "_law_longer", "_law_place"]),(1),(aC (aa dv) ["_law_sizes_here", "_law_found", "_law_size", "_law_longer", "_law_place"] rfl rfl nofun),rfl,%[∅,T.z_range,%[%[2|0]|1],∅|35],(λ C s₀ H₀ ex pn=>%[(0),_,(show List.Nodup (["_law_k", "_law_sizes_here", "_law_found", "_law_size", "_law_longer", "_law_place"]:List Str) from by decide +kernel),rfl,(Or.inl rfl),%[0|7]|15]),(λ C s₀ H₀ ex pn=>(@aI _)),(λ C s₀ H₀ ex pn=>%[oK,%[5|0],%[%[%[0|0]|1]|28]|11]),(by intros;rfl)|22]|1],∅,∅,∅,∅,∅|33],∅|19]|10],(by intros;rfl)|21],%[%[1,bU,%[3|0]|4]|10]|9]|9],(by intros;rfl)|21],%[%[%[1|0]|12]|10]|9]|9],?_⟩;rw [show aw ["_law_sizes_here", "_law_found", "_law_size", "_law_longer", "_law_place"] [.ref p]=[some (.ref p),none,none,none,none] from rfl];ac_rfl;intro q0 H0 b5 e0 h0;ac_rfl;intro r H1 b6 e1 h1;have b7:=(e0.trans e1).at hp;ac_rfl;refine cG (xs:=ns.map V.int) (λ i σ H'=>∃ (r:Addr) (v2 v3 v4:Option V),σ=[some (.ref p),some (.ref r),v2,v3,v4]/\Ext H H'/\aP H' r (bE (ns.take i))) ⟨r,_,_,_,rfl,e0.trans e1,⟨_,h1,rfl,λ i z y hz hy=>?_⟩⟩ (λ i σ H' _ ⟨_,_,_,_,_,e,_⟩=>e.at hp) ?_ ?_
  ·have e':bE (ns.take 0)=[[]]:=rfl;rw [e'] at hz
   cases i with
   | zero=>simp at hz hy;subst hz;subst hy;exact⟨q0,rfl,e1.at h0⟩
   | succ i=>simp at hz
  ·rintro i x _ H2 hi ⟨r,v2,v3,v4,rfl,e2,⟨ys,a3,al⟩⟩;rw [QL] at hi;obtain⟨n,hn,rfl⟩:=QJ.mp hi;have hb:=hs.2 n (QV hn);have cf:=(hs.take i).prod.1;have htk:ns.take (i+1)=ns.take i++[n]:=by rw [RD,hn];rfl
   have b4:bE (ns.take (i+1))=(bE (ns.take i)).flatMap λ row=>(List.range n.toNat).map λ k=>row++[((k:Nat):Int)]:=by
    rw [htk];exact mO _ n %[0|8] %[0|8]
   have hlen:(bE (ns.take i)).length * n.toNat<=4096:=by
    have q1:=fK ns (λ m hm=>(hs.2 m hm).1) (i+1);rw [htk,aU,show ae [n]=n by simp [ae]] at q1;rw [eY]
    have q2:((ae (ns.take i)).toNat * n.toNat:Nat)=(ae (ns.take i) * n).toNat:=by
     obtain⟨a,ha⟩:=QU (show 0<=ae (ns.take i) by omega);obtain⟨b,bS⟩:=QU (show 0<=n by omega);rw [ha,bS];rfl
    omega
   have b1:∀ z∈bE (ns.take i),z.length<=8:=λ z hz=>by
    unfold bE at hz;obtain⟨j,_,rfl⟩:=List.mem_map.mp hz;rw [br];exact(hs.take i).1
   clear hi htk;simp! only [↓aA];intro L H3 hL e3 h3;have cm:r ≠ L:=λ z=>by rw [z,hL] at a3;cases a3
   ac_rfl;have cS:=e3.at a3;ac_rfl;refine cG (xs:=ys) (λ j σ H'=>∃ (v4:Option V) (aX:List V),σ=[some (.ref p),some (.ref r),some (.int n),some (.ref L),v4]/\Ext H2 H'/\H' L=some (.lst aX)/\Al (bD H') (((bE (ns.take i)).take j).flatMap λ row=>(List.range n.toNat).map λ k=>row++[((k:Nat):Int)]) aX) ⟨_,[],rfl,e3,h3,by simpa using Al.nil⟩ (λ j σ H' _ ⟨_,_,_,e,_⟩=>e.at a3) ?_ ?_
   ·rintro j y _ H4 hj ⟨v4,aX,rfl,e4,g4,aS⟩;obtain⟨z,hz,q,rfl,hq⟩:=cu (al.imp λ _ _ t=>t.ext e4) hj;have cT:=b1 z (QV hz);have a5:=qK (bE (ns.take i)) (λ row=>(List.range n.toNat).map λ k=>row++[((k:Nat):Int)]) j z hz;have a7:=u6 (bE (ns.take i)) (λ row=>(List.range n.toNat).map λ k=>row++[((k:Nat):Int)]) n.toNat (λ _ _=>by rw [QE,Rb]) (j+1);rw [a5,QX,QE,Rb] at a7;have a8:=aS.1;rw [a5];generalize ((bE (ns.take i)).take j).flatMap (λ row=>(List.range n.toNat).map λ k=>row++[((k:Nat):Int)])=fs at aS a8 a7;have hsz:(z.map V.int).length+1<=sizeLine:=aj (by rw [QE];omega);exists aS;clear a5 hz hj;simp! only [↓aA];refine⟨by omega,by omega,?_⟩;refine dH (List.range n.toNat) (λ _=>true) (λ j x H'=>x=.int (0+(j:Nat))) (λ D k y H'=>∃ g,y=.ref g/\H' g=some (.tup ((z++[((k:Nat):Int)]).map V.int))) fM.1 fM.2 (λ D _ y H1 H2 ⟨q,h1,h3⟩ e=>⟨q,h1,e.at h3⟩) (λ D _ y H1 xs o ⟨q,h1,h3⟩ hD=>⟨q,h1,by rw [ah (λ z=>by rw [z,hD] at h3;cases h3)];exact h3⟩) (aj (by rw [Rb];omega)) ?_ ?_
    ·intro D k x H' N1 N0 hk hD e _ hx k1 _;subst hx;have b2:=k1 rfl;have b3:=e.at hq;clear k1 hk kk;simp! only [↓aV,↓aO];intro t1 H6 c0 e6 h6;have c1:=e6.at b3;ac_rfl;rw [xF];refine⟨hsz,λ t2 H7 e7 h7=>?_⟩;exact b2 _ H7 (e6.trans e7) ⟨t2,rfl,by rw [h7,RA,Rv];rfl⟩
    intro D a9 H6 hD e6 c2 a4;rw [jc] at a4;have g6:=e6.at g4;have a6:=a4.1;rw [Rb] at a6;have c3:aX.length+a9.length<=sizeLine:=aj (by rw [a8,a6];omega)
    have bt:Al (bD H6) (fs++(List.range n.toNat).map λ k=>z++[((k:Nat):Int)]) (aX++a9):=uH ((aS ()).imp λ _ _ t=>t.ext e6) ⟨by rw [a6,QE,Rb],λ i' a b ha hb=>by
     rw [QL] at ha;obtain⟨k,hk,rfl⟩:=QJ.mp ha;obtain⟨g,h1,h2⟩:=a4.2 i' k b hk hb;exact⟨g,h1,h2⟩⟩
    exists bt;clear aS a4 kk;ac_rfl;refine⟨aj %[0|8],_,_,rfl,(e4.trans e6).put hL,rfl,(bt ()).imp λ _ _ t=>t.upd g6⟩
   ·rintro _ H4 ⟨v4,aX,rfl,e4,g4,aS⟩;rw [al.1,Rz] at aS;ac_rfl;exact⟨L,_,_,_,rfl,e2.trans e4,aX,g4,aS⟩
  ·rintro _ H2 ⟨r,v2,v3,v4,rfl,e2,tt⟩;rw [QE,Rz] at tt;ac_rfl;exact kk r H2 e2 tt
def bP(f:Int)(A:List (Int × Int))(z:List Int):Int:=f+eQ z (A.map λ a=>a.2)
def oO:∀ (A:List (Int × Int)) (z:List Int),InR (A.map λ a=>a.1) z->eQ z ((A.map aB).map λ a=>a.2)=eQ z (A.map λ a=>a.2)
 | [],[],_=>rfl
 | [],_::_,h=>h.elim
 | _::_,[],h=>h.elim
 | a::A,x::z,h=>by
  have ih:=oO A z h.2;have hx:(0<=x/\x < a.1):=h.1
  show eQ (x::z) ((aB a).2::(A.map aB).map λ a=>a.2)=eQ (x::z) (a.2::A.map λ a=>a.2)
  unfold eQ at ih ⊢;rw [zipWith_cons_cons,zipWith_cons_cons,sum_cons,sum_cons,ih]
  have:x * (aB a).2=x * a.2:=by
   show x * (if a.1 > 1 then a.2 else 0)=_
   split
   ·rfl
   ·rw [show x=0 by omega,SK,SK]
  rw [this]
def qm{W W' R R':List Int->Int}:∀ (zs:List (List Int)) (vals:List Int),(∀ z∈zs,W z=W' z/\R z=R' z)->j9 W R zs vals=j9 W' R' zs vals
 | [],_,_=>rfl
 | z::zs,vals,h=>by
  have hz:=h z QP
  show j9 W R zs (vals.set (W z).toNat (vals.getD (R z).toNat 0))=j9 W' R' zs (vals.set (W' z).toNat (vals.getD (R' z).toNat 0))
  rw [hz.1,hz.2];exact qm zs _ λ y hy=>h y (QM _ hy)
def yy{ms:List Int}(hs:∀ n∈ms,1<=n/\n<=1000000000):∀ (os:List (Int × Int)) (fs:List (List Int)),(∀ o∈os,(0<=o.1/\o.1 < (ms.length:Int))/\(o.2=1\/o.2=-1))->(∀ pl∈fs,InR ms pl)->∀ z∈os.foldl (λ fs o=>fs.flatMap λ pl=>(my ms o).map λ k=>pl.set o.1.toNat k) fs,InR ms z
 | [],fs,_,hf,z,hz=>hf z hz
 | o::os,fs,ho,hf,z,hz=>by
  refine yy hs os _ (λ o' aX=>ho o' (mem_cons_of_mem _ aX)) (λ pl aS=>?_) z hz;obtain⟨p0,a3,aS⟩:=List.mem_flatMap.mp aS;obtain⟨k,hk,rfl⟩:=List.mem_map.mp aS;unfold my at hk;obtain⟨j,hj,rfl⟩:=List.mem_map.mp hk;have a4:=List.mem_range.mp hj;refine(hf p0 a3).set ?_ ?_
  ·unfold eC
   split<;>omega
  ·unfold eC
   split<;>omega
def n9{ms:List Int}{os:List (Int × Int)}(hs:∀ n∈ms,1<=n/\n<=1000000000)(ho:∀ o∈os,(0<=o.1/\o.1 < (ms.length:Int))/\(o.2=1\/o.2=-1)):∀ z∈aD ms os,InR ms z:=by
 refine yy hs os _ ho λ pl aS=>?_;rw [QF.mp aS];have:=InR.zeros ms hs
 rwa [List.map_const'] at this
def m5{f room:Int}{A:List (Int × Int)}{z:List Int}(h0:0<=f+aJ A)(h1:f+aG A < room)(hz:InR (A.map λ a=>a.1) z):0<=bP f A z/\bP f A z < room:=by
 have:=fB A z hz;unfold bP;omega
abbrev vz  (p:Addr) (q:Addr) (H:Hp) (Q:VK) (E:XK):Prop:=∃ ms z:List Int,H p=some (.lst (ms.map V.int))/\H q=some (.tup (z.map V.int))/\(∀ m∈ms,1<=m/\m<=6)/\InR ms z/\ae ms<=60/\∀ H',Ext H H'->Q (.int (dP ms z)) H'
def xQ  : Sp:=λ vs H Q E=>∃ (p:Addr) (q:Addr),vs=[.ref p,.ref q]/\(vz  p q H Q E)
def ET  (p:Addr) (q:Addr) (H:Hp) (Q:VK) (E:XK):xQ  [.ref p,.ref q] H Q E=(vz  p q H Q E):=gN (f:=λ (p:Addr) (q:Addr)=>[.ref p,.ref q]) (λ _ _ _ _ h=>by cases h;exact⟨rfl,rfl⟩) p q
def ml(T:Tx K mg t):bj P w K mg base CX0 1 t.a_Bi t.d_Bi ["_law_sizes_here", "_law_place"] xQ:=by
 refine T.F_Bi.ok cJ (λ _ _ _ _ h=>gO h λ _ _=>rfl) (λ c A o s H vs Q E hr h=>?_)
 ·obtain⟨p,q,rfl,ms,z,hp,hq,h6,hz,a3,k⟩:=h;refine⟨_,%[%[2,cJ,%[0|2]|4],%[%[QT,rfl,%[∅,T.z_zip,%[%[0|0],%[%[1|0]|1]|1],∅,∅|41],(%[(2),rfl,%[%[3,cJ|5],%[%[4,cJ|5],(@aL _),∅|16],∅|16],∅,∅|26].mono λ _ _ _ _ h=>b0 h),%[%[2,cJ,%[bG,%[cP,%[2|0],%[3|0]|11],%[4|0]|11]|4]|10],(by intros;rfl)|21],%[%[%[2|0]|12]|10]|9]|9],?_⟩;rw [show aw ["_law_sizes_here", "_law_place", "_law_number_here", "_law_size", "_law_k"] [.ref p,.ref q]=[some (.ref p),some (.ref q),none,none,none] from rfl];have aS:=hz.len;exists k;ac_rfl;refine ku (ka:=false) (kb:=true) (xs:=ms.map V.int) (ys:=z.map V.int) (λ i σ H'=>∃ v3 v4:Option V,σ=[some (.ref p),some (.ref q),some (.int (dP (ms.take i) (z.take i))),v3,v4]/\Ext H H') ⟨none,none,rfl,Ext.refl _⟩ (λ i σ H' ⟨_,_,_,e⟩=>⟨e.at hp,e.at hq⟩) ?_ ?_
  ·rintro i x y w' _ H2 H3 hx hy ⟨v3,v4,rfl,e2⟩ hw e3 h3;rw [QL] at hx hy;obtain⟨a,ha,rfl⟩:=QJ.mp hx;obtain⟨b,hb,rfl⟩:=QJ.mp hy;have a4:=h6 a (QV ha)
   have hn:dP (ms.take (i+1)) (z.take (i+1))=dP (ms.take i) (z.take i) * a+b:=by
    rw [RD,RD,ha,hb];exact qA _ _ a b (by rw [Rf,Rf];omega)
   have cm:kd (dP (ms.take i) (z.take i)) a:=.inr ⟨by omega,by omega⟩;generalize dP (ms.take i) (z.take i)=n at hn cm;exists hn;clear hx hy ha hb hw k h6;simp! only [↓aA];exact⟨_,_,by rw [hn ()],e2.trans e3⟩
  ·rintro _ H3 ⟨v3,v4,rfl,e3⟩;have aX:min (ms.map V.int).length (z.map V.int).length=ms.length:=by rw [QE,QE];omega
   rw [aX,Rz,←aS,Rz];have k':=k () H3 e3;clear k;ac_rfl
def vZ(ms:List Int):(List.range ms.length).map (λ i=>ms.getD i 0)=ms:=by
 refine T2 (by rw [QE,Rb]) λ i h1 h2=>?_;rw [List.getElem_map,UG,Rh,QB h2];rfl
def uL{ms:List Int}{os:List (Int × Int)}(h:(os.map λ o=>o.1).Perm ((List.range ms.length).map λ (i:Nat)=>(i:Int))):ae (szO ms os)=ae ms:=by
 have e1:szO ms os=(os.map λ o=>o.1).map λ i=>ms.getD i.toNat 0:=by unfold szO;rw [map_map];rfl
 rw [e1,mQ (h.map _),Rq];have e2:((λ i:Int=>ms.getD i.toNat 0) ∘ λ (i:Nat)=>(i:Int))=λ i=>ms.getD i 0:=rfl;rw [e2,vZ]
def qw{H:Hp}{r:Addr}{os:List (Int × Int)}{n:Nat}(h:eS os n)(t:aP H r (os.map λ o=>[o.1,o.2])):eE n H r os:=by
 refine⟨t,h.1,λ o ho=>⟨?_,h.2.2 o ho⟩⟩;have:=h.2.1.mem_iff.mp (QG.mpr ⟨o,ho,rfl⟩);obtain⟨i,hi,e⟩:=QG.mp this;have:=Rj.mp hi;omega
def As{os:List (Int × Int)}{n:Nat}(h:eS os n):(os.map λ o=>o.1).Nodup:=by
 refine h.2.1.nodup_iff.mpr ?_;exact SS.mpr (List.Pairwise.imp (λ h e=>h (Int.ofNat.inj e)) Uc)
def eE.ext{n:Nat}{H H':Hp}{q:Addr}{os:List (Int × Int)}(h:eE n H q os)(e:Ext H H'):eE n H' q os:=⟨h.1.ext e,h.2⟩
def cw(x y:List Int)(a:Nat):Int:=x.getD a 0 - y.getD a 0
def crB:List (Int × Int)->List Int->List Int->Bool
 | [],_,_=>false
 | o::os,x,y=>if cw x y o.1.toNat=0 then crB os x y else decide (0 < cw x y o.1.toNat * o.2)
def dX{o:Int × Int}{os:List (Int × Int)}{x y:List Int}(h:cw x y o.1.toNat=0):crB (o::os) x y=crB os x y:=Rc h
def cX{o:Int × Int}{os:List (Int × Int)}{x y:List Int}(h:¬ cw x y o.1.toNat=0):crB (o::os) x y=decide (0 < cw x y o.1.toNat * o.2):=Q5 h
def oN(x y:List Int)(a:Nat):cw y x a=-cw x y a:=by unfold cw;omega
def vd:∀ {os:List (Int × Int)}{x y:List Int},crB os x y=true->crB os y x=false
 | [],_,_,h=>by cases h
 | o::os,x,y,h=>by
  by_cases hg:cw x y o.1.toNat=0
  ·rw [dX hg] at h;rw [dX (by rw [oN];omega)];exact vd h
  ·rw [cX hg] at h;rw [cX (by rw [oN];omega),oN,Int.neg_mul];have:=Rp h;exact Ro %[0|8]
def zp:∀ (os:List (Int × Int)) (x:List Int),crB os x x=false
 | [],_=>rfl
 | o::os,x=>by rw [dX (by unfold cw;omega)];exact zp os x
def nV:∀ {os qs:List (Int × Int)}{x y:List Int},crB os x y=true->crB (os++qs) x y=true
 | [],_,_,_,h=>by cases h
 | o::os,qs,x,y,h=>by
  rw [Ue]
  by_cases hg:cw x y o.1.toNat=0
  ·rw [dX hg] at h ⊢;exact nV h
  ·rw [cX hg] at h ⊢;exact h
def oQ:∀ {os qs:List (Int × Int)}{x y:List Int},(∀ o∈os,cw x y o.1.toNat=0)->crB (os++qs) x y=crB qs x y
 | [],_,_,_,_=>rfl
 | o::os,qs,x,y,h=>by
  rw [Ue,dX (h o QP)];exact oQ λ o ho=>h o (QM _ ho)
def qM:∀ {os:List (Int × Int)}{x y x' y':List Int},(∀ o∈os,cw x y o.1.toNat=cw x' y' o.1.toNat)->crB os x y=crB os x' y'
 | [],_,_,_,_,_=>rfl
 | o::os,x,y,x',y',h=>by
  have h0:=h o QP;have ih:=qM (os:=os) λ o ho=>h o (QM _ ho)
  by_cases hg:cw x y o.1.toNat=0
  ·rw [dX hg,dX (by rw [←h0];exact hg),ih]
  ·rw [cX hg,cX (by rw [←h0];exact hg),h0]
def du(l:List Int)(a b:Nat)(v:Int):(l.set a v).getD b 0=if a=b/\a < l.length then v else l.getD b 0:=by
 rw [Rh,Rh,List.getElem?_set]
 by_cases h:a=b
 ·subst h
  by_cases hl:a < l.length
  ·rw [Rc rfl,Rc hl,Rc ⟨rfl,hl⟩];rfl
  ·rw [Rc rfl,Q5 hl,Q5 (λ z=>hl z.2),R8 %[0|8]]
 ·rw [Q5 h,Q5 (λ z=>h z.1)]
def xu(n:Nat)(os:List (Int × Int)):Prop:=(∀ o∈os,(0<=o.1/\o.1 < (n:Int))/\(o.2=1\/o.2=-1))/\(os.map λ o=>o.1).Nodup
def xu.init{n:Nat}{os:List (Int × Int)}{o:Int × Int}(h:xu n (os++[o])):xu n os/\(∀ p∈os,¬ p.1.toNat=o.1.toNat)/\((0<=o.1/\o.1 < (n:Int))/\(o.2=1\/o.2=-1)):=by
 obtain⟨h1,h2⟩:=h;rw [RA] at h2;have h3:=RL.mp h2;refine⟨⟨λ p hp=>h1 p (QZ _ hp),h3.1⟩,λ p hp e=>?_,h1 o (Q8 _ (QF.mpr rfl))⟩;have a:=(h1 p (QZ _ hp)).1;have b:=(h1 o (Q8 _ (QF.mpr rfl))).1;exact h3.2.2 p.1 (QG.mpr ⟨p,hp,rfl⟩) o.1 (QG.mpr ⟨o,QF.mpr rfl,rfl⟩) %[0|8]
def fm{α:Type}{p:List α->Prop}(h0:p [])(h1:∀ l a,p l->p (l++[a])):∀ l,p l:=by
 intro l
 suffices h:∀ n (l:List α),l.length=n->p l from h _ l rfl
 intro n
 induction n with
 | zero=>intro l hl;rw [List.length_eq_zero_iff.mp hl];exact h0
 | succ n ih=>
  intro l hl;have aS:l ≠ []:=λ e=>by rw [e] at hl;simp at hl
  rw [←U4 aS];exact h1 _ _ (ih _ (by rw [List.length_dropLast,hl];rfl))
def yV(x y:List Int)(a b:Nat)(u v:Int)(h:¬ a=b):cw (x.set a u) (y.set a v) b=cw x y b:=by
 unfold cw;rw [du,du,if_neg (λ z=>h z.1),if_neg (λ z=>h z.1)]
def lh(ms:List Int):∀ os:List (Int × Int),xu ms.length os->(aD ms os).Pairwise (λ x y=>crB os y x=true)/\∀ z∈aD ms os,z.length=ms.length:=by
 refine fm ?_ ?_
 ·intro _;refine⟨T7 _ _,λ z hz=>?_⟩;have a4:z∈[List.replicate ms.length (0:Int)]:=hz;rw [QF.mp a4,R7]
 ·intro os o ih ho;obtain⟨a5,aX,⟨a8,a6⟩⟩:=ho.init;obtain⟨ip,il⟩:=ih a5;rw [gA];refine⟨List.pairwise_flatMap.mpr ⟨λ pl aS=>?_,?_⟩,λ z hz=>?_⟩
  ·rw [pairwise_map];unfold my;rw [pairwise_map];refine List.pairwise_lt_range.imp λ {i j} a9=>?_;have a3:o.1.toNat < pl.length:=by rw [il pl aS];omega
   rw [oQ λ p hp=>by rw [yV _ _ _ _ _ _ λ e=>aX p hp e.symm];unfold cw;omega]
   have hg:cw (pl.set o.1.toNat (eC ms o (j:Int))) (pl.set o.1.toNat (eC ms o (i:Int))) o.1.toNat=eC ms o (j:Int) - eC ms o (i:Int):=by
    unfold cw;rw [du,du,if_pos ⟨rfl,a3⟩,if_pos ⟨rfl,a3⟩]
   unfold eC at hg
   rcases a6 with e|e
   ·rw [if_pos e,if_pos e] at hg;rw [cX (by unfold eC;rw [if_pos e,if_pos e,hg];omega)];unfold eC;rw [if_pos e,if_pos e,hg,e];exact decide_eq_true %[0|8]
   ·have e':¬ o.2=1:=by omega
    rw [if_neg e',if_neg e'] at hg;rw [cX (by unfold eC;rw [if_neg e',if_neg e',hg];omega)];unfold eC;rw [if_neg e',if_neg e',hg,e];exact decide_eq_true %[0|8]
  ·refine ip.imp λ {x y} a7=>?_;intro a ha b hb;obtain⟨u,_,rfl⟩:=QG.mp ha;obtain⟨v,_,rfl⟩:=QG.mp hb;refine nV ?_;rw [qM (x':=y) (y':=x) λ p hp=>yV _ _ _ _ _ _ λ e=>aX p hp e.symm];exact a7
  ·obtain⟨pl,aS,hz⟩:=Sj.mp hz;obtain⟨k,_,rfl⟩:=QG.mp hz;rw [SG,il pl aS]
def B5(n:Nat)(z:List Int)(os:List (Int × Int)):List Int:=os.foldl (λ pl o=>pl.set o.1.toNat (z.getD o.1.toNat 0)) (List.replicate n 0)
def qp(n:Nat)(z:List Int)(os:List (Int × Int))(o:Int × Int):B5 n z (os++[o])=(B5 n z os).set o.1.toNat (z.getD o.1.toNat 0):=by
 unfold B5;rw [foldl_append];rfl
def InR.getD:∀ {ms z:List Int}{a:Nat},InR ms z->a < ms.length->0<=z.getD a 0/\z.getD a 0 < ms.getD a 0
 | [],_,_,_,h=>by simp at h
 | _::_,[],_,h,_=>h.elim
 | m::ms,x::z,0,h,_=>h.1
 | m::ms,x::z,a+1,h,hl=>by
  have:=InR.getD (a:=a) h.2 (by simpa using hl)
  simpa using this
def GK{ms:List Int}{o:Int × Int}{x:Int}(h0:0<=x)(h1:x < ms.getD o.1.toNat 0):x∈my ms o:=by
 unfold my
 by_cases e:o.2=1
 ·refine List.mem_map.mpr ⟨x.toNat,List.mem_range.mpr %[0|8],?_⟩;unfold eC;rw [if_pos e];omega
 ·refine List.mem_map.mpr ⟨(ms.getD o.1.toNat 0 - 1 - x).toNat,List.mem_range.mpr %[0|8],?_⟩;unfold eC;rw [if_neg e];omega
def CC{ms z:List Int}(hz:InR ms z):∀ os:List (Int × Int),(∀ o∈os,0<=o.1/\o.1 < (ms.length:Int))->B5 ms.length z os∈aD ms os:=by
 refine fm ?_ ?_
 ·intro _;exact QF.mpr rfl
 ·intro os o ih ho;have aS:=ho o (Q8 _ (QF.mpr rfl));have:=hz.getD (a:=o.1.toNat) %[0|8];rw [gA,qp];exact Sj.mpr ⟨_,ih λ p hp=>ho p (QZ _ hp),QG.mpr ⟨_,GK this.1 this.2,rfl⟩⟩
def CZ(n:Nat)(z:List Int)(b:Nat)(hb:b < n):∀ os:List (Int × Int),(B5 n z os).length=n/\((∃ o∈os,o.1.toNat=b)->(B5 n z os).getD b 0=z.getD b 0):=by
 refine fm ?_ ?_
 ·exact⟨by unfold B5;rw [List.foldl_nil,length_replicate],λ ⟨o,ho,_⟩=>by cases ho⟩
 ·intro os o ⟨il,ih⟩;rw [qp];refine⟨by rw [SG,il],λ ⟨p,hp,e⟩=>?_⟩;rw [du]
  by_cases hob:o.1.toNat=b
  ·rw [Rc ⟨hob,by rw [il];omega⟩,hob]
  ·rw [Q5 λ z=>hob z.1]
   rcases Q6.mp hp with h|h
   ·exact ih ⟨p,h,e⟩
   ·rw [QF.mp h] at e;exact absurd e hob
def nZ{ms z:List Int}{os:List (Int × Int)}(hz:InR ms z)(ho:eS os ms.length):z∈aD ms os:=by
 have hb:∀ o∈os,0<=o.1/\o.1 < (ms.length:Int):=λ o h=>by
  have:=ho.2.1.mem_iff.mp (QG.mpr ⟨o,h,rfl⟩);obtain⟨i,hi,e⟩:=QG.mp this;have:=Rj.mp hi;omega
 have e:B5 ms.length z os=z:=by
  refine UO λ b=>?_
  by_cases hbl:b < ms.length
  ·obtain⟨l,g⟩:=CZ ms.length z b hbl os
   have aS:∃ o∈os,o.1.toNat=b:=by
    have:=ho.2.1.mem_iff.mpr (QG.mpr ⟨b,Rj.mpr hbl,rfl⟩);obtain⟨o,h,e⟩:=QG.mp this;exact⟨o,h,by omega⟩
   have:=g aS;rw [Rh,Rh,QB %[0|8],QB (by rw [hz.len];omega)] at this;rw [QB %[0|8],QB (by rw [hz.len];omega)];exact RS some this
  ·have aX:=hz.len
   have a3:(B5 ms.length z os).length=ms.length:=by
    have:∀ (os:List (Int × Int)) (pl:List Int),(os.foldl (λ pl o=>pl.set o.1.toNat (z.getD o.1.toNat 0)) pl).length=pl.length:=by
     intro os
     induction os with
     | nil=>intro pl;rfl
     | cons o os ih=>intro pl;rw [Sq,ih,SG]
    unfold B5;rw [this,length_replicate]
   rw [R8 %[0|8],R8 %[0|8]]
 rw [←e];exact CC hz os hb
def eS.toP{os:List (Int × Int)}{n:Nat}(h:eS os n):xu n os:=by
 refine⟨λ o ho=>⟨?_,h.2.2 o ho⟩,?_⟩
 ·have:=h.2.1.mem_iff.mp (QG.mpr ⟨o,ho,rfl⟩);obtain⟨i,hi,e⟩:=QG.mp this;have:=Rj.mp hi;omega
 ·refine h.2.1.nodup_iff.mpr ?_;unfold List.Nodup;rw [pairwise_map];exact List.nodup_range.imp λ h e=>h %[0|8]
def jE{α:Type}(W R:α->Int)(L:List α):List (Int × Int):=L.foldl (λ kv n=>kv++[(W n,(bH kv (R n)).getD (R n))]) []
def kK{α:Type}(W R:α->Int)(L:List α)(n:α):jE W R (L++[n])=jE W R L++[(W n,(bH (jE W R L) (R n)).getD (R n))]:=by
 unfold jE;rw [foldl_append];rfl
def eX{α:Type}(W R:α->Int):∀ L:List α,(jE W R L).map (λ p=>p.1)=L.map W:=by
 refine fm rfl ?_;intro L n ih;rw [kK,RA,RA,ih];rfl
def mT{kv:List (Int × Int)}{c:Int}(h:∀ p∈kv,¬ p.1=c):bH kv c=none:=by
 unfold bH;rw [List.find?_eq_none.mpr λ p hp=>by simpa using h p hp];rfl
def mS{kv:List (Int × Int)}{c v:Int}(h:bH kv c=some v):(c,v)∈kv:=by
 unfold bH at h;obtain⟨p,hp,e⟩:=Option.map_eq_some_iff.mp h;have h1:=List.mem_of_find?_eq_some hp;have h2:=List.find?_some hp;have h3:p.1=c:=of_decide_eq_true h2;have:p=(c,v):=by rw [←h3,←e]
 rw [←this];exact h1
def Bb{kv:List (Int × Int)}{c:Int}(h:∃ p∈kv,p.1=c):∃ v,bH kv c=some v:=by
 unfold bH
 cases hf:kv.find? λ p=>decide (p.1=c) with
 | none=>
  obtain⟨p,hp,e⟩:=h;have:=List.find?_eq_none.mp hf p hp;exact absurd (Q4 e) this
 | some p=>exact⟨p.2,rfl⟩
def yD{α:Type}(W R:α->Int):∀ L:List α,(∀ x∈L,∀ y∈L,W x=W y->x=y)->L.Nodup->((∀ p∈jE W R L,∃ z∈L,p=(W z,R z)) ↔ L.Pairwise λ m n=>W m=R n->R m=W m):=by
 refine fm ?_ ?_
 ·intro _ _;exact⟨λ _=>.nil,λ _ p hp=>by cases hp⟩
 ·intro L n ih aS aX;have bt:n ∉ L:=λ h=>(RL.mp aX).2.2 n h n (QF.mpr rfl) rfl;have a5:=ih (λ x hx y hy=>aS x (QZ _ hx) y (QZ _ hy)) (RL.mp aX).1;have a3:n∈L++[n]:=Q8 _ (QF.mpr rfl)
  have key:∀ p∈jE W R L,∃ z∈L,p.1=W z:=λ p hp=>by
   have:p.1∈L.map W:=by rw [←eX W R L];exact QG.mpr ⟨p,hp,rfl⟩
   obtain⟨z,hz,e⟩:=QG.mp this;exact⟨z,hz,e.symm⟩
  have has:∀ z∈L,∃ p∈jE W R L,p.1=W z:=λ z hz=>by
   have:W z∈(jE W R L).map λ p=>p.1:=by rw [eX W R L];exact QG.mpr ⟨z,hz,rfl⟩
   obtain⟨p,hp,e⟩:=QG.mp this;exact⟨p,hp,e⟩
  rw [kK,List.pairwise_append,←a5];constructor
  ·intro h
   have hL:∀ p∈jE W R L,∃ z∈L,p=(W z,R z):=λ p hp=>by
    obtain⟨z,hz,e⟩:=h p (QZ _ hp);obtain⟨z0,a4,e0⟩:=key p hp;have:z=z0:=aS z hz z0 (QZ _ a4) (by rw [←e0,e]);exact⟨z,by rw [this];exact a4,e⟩
   refine⟨hL,T7 _ _,λ m hm n' a6 hw=>?_⟩;rw [QF.mp a6] at hw;obtain⟨z,hz,e⟩:=h _ (Q8 _ (QF.mpr rfl));have a7:n=z:=aS n a3 z hz (RS Prod.fst e)
   have e2:(bH (jE W R L) (R n)).getD (R n)=R n:=by
    have:=RS Prod.snd e;rw [←a7] at this;exact this
   obtain⟨v,hv⟩:=Bb (c:=R n) (by obtain⟨p,hp,e⟩:=has m hm;exact⟨p,hp,by rw [e,hw]⟩);rw [hv] at e2;have e3:v=R n:=e2;obtain⟨z',a8,e'⟩:=hL _ (mS hv);have a9:z'=m:=aS z' (QZ _ a8) m (QZ _ hm) (by rw [hw];exact(RS Prod.fst e').symm);have:v=R z':=RS Prod.snd e';rw [a9] at this;omega
  ·rintro ⟨hL,_,hx⟩ p hp
   rcases Q6.mp hp with hp|hp
   ·obtain⟨z,hz,e⟩:=hL p hp;exact⟨z,QZ _ hz,e⟩
   ·refine⟨n,a3,?_⟩;rw [QF.mp hp]
    have:(bH (jE W R L) (R n)).getD (R n)=R n:=by
     cases hv:bH (jE W R L) (R n) with
     | none=>rfl
     | some v=>
      obtain⟨m,hm,e'⟩:=hL _ (mS hv);have h1:R n=W m:=RS Prod.fst e';have h2:v=R m:=RS Prod.snd e';have h3:=hx m hm n (QF.mpr rfl) h1.symm
      show v=R n
      omega
    rw [this]
def Fi{α:Type}{r:α->α->Prop}:∀ {l:List α}{a b:α},l.Pairwise r->a∈l->b∈l->¬ a=b->r a b\/r b a
 | [],_,_,_,h,_,_=>by cases h
 | x::l,a,b,hp,ha,hb,hne=>by
  obtain⟨h1,h2⟩:=List.pairwise_cons.mp hp
  rcases Q1.mp ha with e|ha'
  ·rcases Q1.mp hb with e'|hb'
   ·exact absurd (e.trans e'.symm) hne
   ·exact .inl (by rw [e];exact h1 b hb')
  ·rcases Q1.mp hb with e'|hb'
   ·exact .inr (by rw [e'];exact h1 a ha')
   ·exact Fi h2 ha' hb' hne
def iP{ws rs:List Int}{n i j:Nat}(aS:ws.Nodup):(i,j)∈aQ ws rs n ↔ j < n/\∃ c,rs[j]? = some c/\ws[i]? = some c/\¬ rs[i]? = some c:=by
 unfold aQ;rw [List.mem_flatMap];constructor
 ·rintro ⟨j',aX,h⟩;unfold bZ at h
  cases hc:rs[j']? with
  | none=>rw [hc] at h;cases h
  | some c=>
   rw [hc] at h;have h':(i,j)∈(match ws.findIdx? (λ x=>decide (x=c)) with|some i=>if rs[i]? = some c then [] else [(i,j')]|none=>[]):=h
   cases hf:ws.findIdx? (λ x=>decide (x=c)) with
   | none=>rw [hf] at h';cases h'
   | some i'=>
    rw [hf] at h';have h2:(i,j)∈(if rs[i']? = some c then [] else [(i',j')]):=h';rw [R0] at hf;split at h2
    ·cases h2
    ·rename_i hr;have:=QF.mp h2;cases this;obtain⟨hi,he,_⟩:=hf;exact⟨Rj.mp aX,c,hc,by rw [QB hi,Rp he],hr⟩
 ·rintro ⟨hj,c,hc,hw,hr⟩;refine⟨j,List.mem_range.mpr hj,?_⟩;unfold bZ;rw [hc]
  show (i,j)∈(match ws.findIdx? (λ x=>decide (x=c)) with|some i=>if rs[i]? = some c then [] else [(i,j)]|none=>[])
  rw [sV aS hw]
  show (i,j)∈(if rs[i]? = some c then [] else [(i,j)])
  rw [Q5 hr];exact QF.mpr rfl
def ay(ms ws:List Int)(z:List Int):Int:=ws.getD (dP ms z).toNat 0
def nK(ms ws rs:List Int)(os:List (Int × Int)):Bool:=(aQ ws rs rs.length).all λ p=>crB os (ao ms (p.1:Int)) (ao ms (p.2:Int))
def aR{ms ws z:List Int}(hs:∀ n∈ms,1<=n/\n<=1000000000)(hw:(ws.length:Int)=ae ms)(hz:InR ms z):ws[(dP ms z).toNat]? = some (ay ms ws z):=by
 have:=fj ms z hs hz;unfold ay;rw [getD_eq_getElem?_getD,getElem?_eq_getElem %[0|8]];rfl
def kW{ms ws:List Int}(hs:∀ n∈ms,1<=n/\n<=1000000000)(hw:(ws.length:Int)=ae ms)(aS:ws.Nodup){x y:List Int}(hx:InR ms x)(hy:InR ms y)(e:ay ms ws x=ay ms ws y):x=y:=by
 have a:=aR hs hw hx;have b:=aR hs hw hy;rw [←e] at b;obtain⟨a1,a2⟩:=QD.mp a;obtain⟨b1,b2⟩:=QD.mp b;have:=(Tz aS).mp (a2.trans b2.symm);have n1:=(fj ms x hs hx).1;have n2:=(fj ms y hs hy).1;have:dP ms x=dP ms y:=by omega
 rw [←dM ms x hs hx,this,dM ms y hs hy]
def jh{ms:List Int}{os:List (Int × Int)}(h:xu ms.length os):(aD ms os).Nodup:=by
 refine(lh ms os h).1.imp λ {x y} aS e=>?_;rw [e,zp] at aS;cases aS
def uZ{ms ws rs:List Int}{os:List (Int × Int)}(hs:∀ n∈ms,1<=n/\n<=1000000000)(hw:(ws.length:Int)=ae ms)(hr:(rs.length:Int)=ae ms)(aX:ws.Nodup)(ho:eS os ms.length)(aS:∀ z∈aD ms os,InR ms z):((∀ p∈jE (ay ms ws) (ay ms rs) (aD ms os),∃ z∈aD ms os,p=(ay ms ws z,ay ms rs z)) ↔ nK ms ws rs os=true):=by
 have hP:=ho.toP;have a3:=(lh ms os hP).1;rw [yD _ _ _ (λ x hx y hy e=>kW hs hw aX (aS x hx) (aS y hy) e) (jh hP)];unfold nK;rw [all_eq_true];constructor
 ·intro a7 p hp;obtain⟨i,j⟩:=p;obtain⟨hj,c,a8,a4,a9⟩:=(iP aX).mp hp;have bt:i < ws.length:=(QD.mp a4).1;have zi:InR ms (ao ms (i:Int)):=InR.split ms i hs;have zj:InR ms (ao ms (j:Int)):=InR.split ms j hs;have ni:dP ms (ao ms (i:Int))=(i:Int):=by rw [eZ ms i λ n hn=>(hs n hn).1];exact Sw %[0|8] %[0|8]
  have nj:dP ms (ao ms (j:Int))=(j:Int):=by rw [eZ ms j λ n hn=>(hs n hn).1];exact Sw %[0|8] %[0|8]
  have wi:ay ms ws (ao ms (i:Int))=c:=by
   have:=aR hs hw zi;rw [ni,QO,a4] at this;exact(Q2 this).symm
  have rj:ay ms rs (ao ms (j:Int))=c:=by
   have:=aR hs hr zj;rw [nj,QO,a8] at this;exact(Q2 this).symm
  have ri:¬ ay ms rs (ao ms (i:Int))=c:=λ e=>by
   have:=aR hs hr zi;rw [ni,QO,e] at this;exact a9 this
  rcases Fi (a3.and a7) (nZ zi ho) (nZ zj ho) (λ e=>ri (by rw [e,rj])) with h|h
  ·exact absurd ((h.2 (by rw [wi,rj])).trans wi) ri
  ·exact h.1
 ·intro a5;refine a3.imp_of_mem λ {m n} hm hn a6 e=>?_;have zm:=aS m hm;have zn:=aS n hn
  by_cases hre:ay ms rs m=ay ms ws m
  ·exact hre
  ·have nm:=fj ms m hs zm;have nn:=fj ms n hs zn;have hp:((dP ms m).toNat,(dP ms n).toNat)∈aQ ws rs rs.length:=(iP aX).mpr ⟨by omega,ay ms ws m,by rw [e];exact aR hs hr zn,aR hs hw zm,λ z=>by rw [aR hs hr zm] at z;exact hre (Q2 z)⟩;have h1:=a5 _ hp;have h2:crB os (ao ms (((dP ms m).toNat:Nat):Int)) (ao ms (((dP ms n).toNat:Nat):Int))=true:=h1;rw [RC nm.1,RC nn.1,dM ms m hs zm,dM ms n hs zn] at h2;rw [vd h2] at a6;cases a6
abbrev PP:=List Int × List Int
def Nj(d:Int)(ns:List Int)(M:Int):Prop:=(ns=[]/\M=d)\/(M∈ns/\∀ a∈ns,M<=a)
def Cs(d:Int)(ns:List Int)(M:Int):Prop:=(ns=[]/\M=d)\/(M∈ns/\∀ a∈ns,a<=M)
def nL(Z:List PP)(a:Nat):List Int:=Z.map λ z=>cw z.1 z.2 a
def Ct(Z:List PP)(a:Nat)(w:Int):Prop:=(w=1\/w=-1)/\(∀ z∈Z,0<=cw z.1 z.2 a * w)/\∃ z∈Z,¬ cw z.1 z.2 a=0
def Cu(Z:List PP)(a:Nat):Prop:=(∀ z∈Z,cw z.1 z.2 a=0)\/((∃ z∈Z,cw z.1 z.2 a < 0)/\∃ z∈Z,0 < cw z.1 z.2 a)
def fq{Z:List PP}{a:Nat}{z:PP}(h:z∈Z):cw z.1 z.2 a∈nL Z a:=QG.mpr ⟨z,h,rfl⟩
def Ew{Z:List PP}{a:Nat}{lo hi:Int}(hl:Nj 0 (nL Z a) lo)(hh:Cs 0 (nL Z a) hi)(h1:0<=lo)(h2:0 < hi):Ct Z a 1:=by
 refine⟨.inl rfl,λ z hz=>?_,?_⟩
 ·rcases hl with ⟨e,_⟩|⟨_,h⟩
  ·have:=fq (a:=a) hz;rw [e] at this;cases this
  ·have:=h _ (fq (a:=a) hz);omega
 ·rcases hh with ⟨_,e⟩|⟨h,_⟩
  ·omega
  ·obtain⟨z,hz,e⟩:=QG.mp h;exact⟨z,hz,by omega⟩
def Ex{Z:List PP}{a:Nat}{lo hi:Int}(hl:Nj 0 (nL Z a) lo)(hh:Cs 0 (nL Z a) hi)(h1:hi<=0)(h2:lo < 0):Ct Z a (-1):=by
 refine⟨.inr rfl,λ z hz=>?_,?_⟩
 ·rcases hh with ⟨e,_⟩|⟨_,h⟩
  ·have:=fq (a:=a) hz;rw [e] at this;cases this
  ·have:=h _ (fq (a:=a) hz);omega
 ·rcases hl with ⟨_,e⟩|⟨h,_⟩
  ·omega
  ·obtain⟨z,hz,e⟩:=QG.mp h;exact⟨z,hz,by omega⟩
def Jl{Z:List PP}{a:Nat}{lo hi:Int}(hl:Nj 0 (nL Z a) lo)(hh:Cs 0 (nL Z a) hi)(h1:¬ (0<=lo/\0 < hi))(h2:¬ (hi<=0/\lo < 0)):Cu Z a:=by
 rcases hl with ⟨e,_⟩|⟨m1,l1⟩
 ·left;intro z hz;have:=fq (a:=a) hz;rw [e] at this;cases this
 ·rcases hh with ⟨e,_⟩|⟨m2,l2⟩
  ·rw [e] at m1;cases m1
  ·by_cases h:lo < 0
   ·right;obtain⟨z,hz,e⟩:=QG.mp m1;obtain⟨z',aS,e'⟩:=QG.mp m2;exact⟨⟨z,hz,by omega⟩,z',aS,by omega⟩
   ·left;intro z hz;have:=l1 _ (fq (a:=a) hz);have:=l2 _ (fq (a:=a) hz);omega
structure LoI(n:Nat)(P L:List PP)(os:List (Int × Int)):Prop where
 ord:xu n os
 sub:∀ z∈L,z∈P
 zer:∀ z∈L,∀ o∈os,cw z.1 z.2 o.1.toNat=0
 crr:∀ z∈P,z∈L\/crB os z.1 z.2=true
def LoI.init(n:Nat)(P:List PP):LoI n P P []:=⟨⟨(λ o h=>by cases h),Ta⟩,λ _ h=>h,(λ _ _ o h=>by cases h),λ _ h=>.inl h⟩
def LoI.step{n:Nat}{P L:List PP}{os:List (Int × Int)}{a:Nat}{w:Int}(h:LoI n P L os)(hh:Ct L a w)(ha:a < n):LoI n P (L.filter λ z=>decide (cw z.1 z.2 a=0)) (os++[((a:Int),w)])/\(L.filter λ z=>decide (cw z.1 z.2 a=0)).length < L.length:=by
 obtain⟨hw,h0,z1,aS,aX⟩:=hh;have a3:∀ o∈os,¬ o.1=(a:Int):=λ o ho e=>aX (by have:=h.zer z1 aS o ho;rw [e,QO] at this;exact this);refine⟨⟨⟨λ o ho=>?_,?_⟩,λ z hz=>h.sub z (RK.mp hz).1,λ z hz o ho=>?_,λ z hz=>?_⟩,?_⟩
 ·rcases Q6.mp ho with ho|ho
  ·exact h.ord.1 o ho
  ·rw [QF.mp ho];exact⟨⟨by show (0:Int)<=(a:Int);omega,by show (a:Int) < (n:Int);omega⟩,hw⟩
 ·rw [RA];refine RL.mpr ⟨h.ord.2,T7 _ _,λ x hx y hy e=>?_⟩;obtain⟨o,ho,e1⟩:=QG.mp hx;have a4:y=(a:Int):=QF.mp hy;exact a3 o ho (by rw [e1,e,a4])
 ·obtain⟨hz,hg⟩:=RK.mp hz
  rcases Q6.mp ho with ho|ho
  ·exact h.zer z hz o ho
  ·rw [QF.mp ho]
   show cw z.1 z.2 ((a:Int)).toNat=0
   rw [QO];exact Rp hg
 ·rcases h.crr z hz with hL|hc
  ·by_cases hg:cw z.1 z.2 a=0
   ·exact .inl (RK.mpr ⟨hL,Q4 hg⟩)
   ·right;rw [oQ (h.zer z hL),cX (by show ¬ cw z.1 z.2 ((a:Int)).toNat=0;rw [QO];exact hg)]
    show decide (0 < cw z.1 z.2 ((a:Int)).toNat * w)=true
    rw [QO];refine Q4 ?_;have:=h0 z hL
    rcases hw with rfl|rfl<;>omega
  ·exact .inr (nV hc)
 ·refine Nat.lt_of_le_of_ne (Tu _ _) λ e=>?_;have:=List.length_filter_eq_length_iff.mp e z1 aS;exact aX (Rp this)
def iW{α:Type}[DecidableEq α]:∀ {l1 l2:List α},l1.Nodup->l2.Nodup->(∀ a,a∈l1 ↔ a∈l2)->l1.Perm l2
 | [],l2,_,_,h=>by
  cases l2 with
  | nil=>exact .nil
  | cons b r=>exact absurd ((h b).mpr QP) (by simp)
 | a::l,l2,h1,h2,h=>by
  obtain⟨n1,n2⟩:=Sb.mp h1;have ha:a∈l2:=(h a).mp QP;refine(List.Perm.cons a (iW n2 (h2.erase a) λ b=>?_)).trans (List.perm_cons_erase ha).symm;rw [h2.mem_erase_iff];constructor
  ·intro hb;exact⟨λ e=>n1 (e ▸ hb),(h b).mp (QM _ hb)⟩
  ·rintro ⟨aS,hb⟩
   rcases Q1.mp ((h b).mpr hb) with e|e
   ·exact absurd e aS
   ·exact e
def jO(n:Nat)(os:List (Int × Int)):List (Int × Int):=(((List.range n).map λ (i:Nat)=>(i:Int)).filter λ a=>decide (¬ a∈os.map λ o=>o.1)).map λ a=>(a,1)
def mV(n:Nat):((List.range n).map λ (i:Nat)=>(i:Int)).Nodup:=by
 unfold List.Nodup;rw [pairwise_map];exact List.nodup_range.imp λ h e=>h %[0|8]
def xu.full{n:Nat}{os:List (Int × Int)}(h:xu n os):eS (os++jO n os) n:=by
 have hp:((os++jO n os).map λ o=>o.1).Perm ((List.range n).map λ (i:Nat)=>(i:Int)):=by
  refine iW ?_ (mV n) λ a=>?_
  ·rw [RA];refine RL.mpr ⟨h.2,?_,λ x hx y hy e=>?_⟩
   ·unfold jO;rw [map_map];have:((λ o:Int × Int=>o.1) ∘ λ a:Int=>(a,(1:Int)))=id:=rfl;rw [this,List.map_id];exact(mV n).filter _
   ·obtain⟨o,ho,rfl⟩:=List.mem_map.mp hy;unfold jO at ho;obtain⟨a,ha,rfl⟩:=List.mem_map.mp ho;have:=of_decide_eq_true (List.mem_filter.mp ha).2;exact this (by have e':x=a:=e;rw [←e'];exact hx)
  ·constructor
   ·intro ha;obtain⟨o,ho,rfl⟩:=QG.mp ha
    rcases Q6.mp ho with ho|ho
    ·have:=(h.1 o ho).1;exact QG.mpr ⟨o.1.toNat,Rj.mpr %[0|8],by omega⟩
    ·unfold jO at ho;obtain⟨b,hb,rfl⟩:=List.mem_map.mp ho;exact(List.mem_filter.mp hb).1
   ·intro ha
    by_cases hm:a∈os.map λ o=>o.1
    ·obtain⟨o,ho,e⟩:=QG.mp hm;exact QG.mpr ⟨o,QZ _ ho,e⟩
    ·refine List.mem_map.mpr ⟨(a,1),mem_append_right _ ?_,rfl⟩;unfold jO;exact List.mem_map.mpr ⟨a,List.mem_filter.mpr ⟨ha,decide_eq_true hm⟩,rfl⟩
 refine⟨?_,hp,λ o ho=>?_⟩
 ·have:=hp.length_eq;rw [QE,QE,Rb] at this;exact this
 ·rcases Q6.mp ho with ho|ho
  ·exact(h.1 o ho).2
  ·unfold jO at ho;obtain⟨a,_,rfl⟩:=List.mem_map.mp ho;exact .inl rfl
def uY:∀ {ws rs:List Int}{i:Nat}{c v:Int},ws.Nodup->ws[i]? = some c->rs[i]? = some v->bH (ws.zip rs) c=some v
 | [],_,_,_,_,_,h,_=>by simp at h
 | _::_,[],_,_,_,_,_,h=>by simp at h
 | w::ws,r::rs,0,c,v,hn,h1,h2=>by
  cases h1;cases h2;rw [Tc];exact kP rfl
 | w::ws,r::rs,i+1,c,v,hn,h1,h2=>by
  have aS:ws[i]? = some c:=by simpa using h1
  obtain⟨n1,n2⟩:=Sb.mp hn;rw [Tc,kR (λ e=>n1 (by have e':w=c:=e;rw [e'];exact QV aS))];exact uY n2 aS (by simpa using h2)
def EG{ms ws rs:List Int}{os:List (Int × Int)}(hs:∀ n∈ms,1<=n/\n<=1000000000)(hw:(ws.length:Int)=ae ms)(hr:(rs.length:Int)=ae ms)(aX:ws.Nodup)(ho:eS os ms.length)(aS:∀ z∈aD ms os,InR ms z)(hl:(aD ms os).length=ws.length):J2 (jE (ay ms ws) (ay ms rs) (aD ms os)) (ws.zip rs)=nK ms ws rs os:=by
 have hk:=uZ hs hw hr aX ho aS
 have e1:(jE (ay ms ws) (ay ms rs) (aD ms os)).length=(ws.zip rs).length:=by
  have:=RS List.length (eX (ay ms ws) (ay ms rs) (aD ms os));rw [QE,QE] at this;rw [this,hl,Sy];omega
 have lk:∀ z∈aD ms os,bH (ws.zip rs) (ay ms ws z)=some (ay ms rs z):=λ z hz=>uY aX (aR hs hw (aS z hz)) (aR hs hr (aS z hz))
 have e2:((jE (ay ms ws) (ay ms rs) (aD ms os)).all λ p=>bH (ws.zip rs) p.1 == some p.2)=true ↔ ∀ p∈jE (ay ms ws) (ay ms rs) (aD ms os),∃ z∈aD ms os,p=(ay ms ws z,ay ms rs z):=by
  rw [SV];constructor
  ·intro h p hp;have hm:p.1∈(aD ms os).map (ay ms ws):=by rw [←eX (ay ms ws) (ay ms rs)];exact QG.mpr ⟨p,hp,rfl⟩
   obtain⟨z,hz,e⟩:=QG.mp hm;have h2:=eq_of_beq (h p hp);rw [←e,lk z hz] at h2;refine⟨z,hz,?_⟩;rw [e,Q2 h2]
  ·intro h p hp;obtain⟨z,hz,rfl⟩:=h p hp;rw [lk z hz];exact T9 _
 unfold J2;rw [e1,beq_self_eq_true,Bool.true_and];apply Bool.eq_iff_iff.mpr;rw [e2,hk]
def zP{ws rs:List Int}{i:Nat}{c:Int}(hn:ws.Nodup)(hc:ws[i]? = some c):bH ((ws.zip rs).take i) c=none:=by
 refine mT λ p hp e=>?_;obtain⟨j,hj⟩:=SJ.mp hp;rw [UH] at hj;split at hj
 ·rename_i aS;have h1:=(RB.mp hj).1;rw [e] at h1;obtain⟨a1,a2⟩:=QD.mp h1;obtain⟨b1,b2⟩:=QD.mp hc;have:=(Tz hn).mp (a2.trans b2.symm);omega
 ·cases hj
def Ac{α:Type}{W R:α->Int}{L:List α}{i:Nat}{z:α}(aS:∀ x∈L,∀ y∈L,W x=W y->x=y)(hn:L.Nodup)(hz:L[i]? = some z):bH (jE W R (L.take i)) (W z)=none:=by
 refine mT λ p hp e=>?_;have hm:p.1∈(L.take i).map W:=by rw [←eX W R];exact QG.mpr ⟨p,hp,rfl⟩
 obtain⟨x,hx,ex⟩:=QG.mp hm;obtain⟨j,hj⟩:=SJ.mp hx;rw [UH] at hj;split at hj
 ·rename_i a3;have aX:x=z:=aS x (QV hj) z (QV hz) (by rw [ex,e]);subst aX;obtain⟨a1,a2⟩:=QD.mp hj;obtain⟨b1,b2⟩:=QD.mp hz;have:=(Tz hn).mp (a2.trans b2.symm);omega
 ·cases hj
def nS{H:Hp}{f:V->Option PyData}{p:Addr}{z:List Int}(h:H p=some (.tup (z.map V.int))):dQ H (dQ H f) (.ref p)=some (.tuple (z.map PyData.int)):=by
 rw [gJ,h]
 show xv (dQ H f) (.tup (z.map V.int))=_
 rw [gH,gp];rfl
def u7(a b:List Int):PyData.eqv (.tuple (a.map PyData.int)) (.tuple (b.map PyData.int))=decide (a=b):=by rw [qL,iq]
def PrV(H:Hp)(z:List Int × List Int)(y:V):Prop:=∃ q u v,y=.ref q/\H q=some (.tup [.ref u,.ref v])/\H u=some (.tup (z.1.map V.int))/\H v=some (.tup (z.2.map V.int))
def PrV.ext{H H':Hp}{z:List Int × List Int}{y:V}(h:PrV H z y)(e:Ext H H'):PrV H' z y:=by
 obtain⟨q,u,v,h1,h2,h3,h4⟩:=h;exact⟨q,u,v,h1,e.at h2,e.at h3,e.at h4⟩
def PrV.upd{H:Hp}{z:List Int × List Int}{y:V}{r:Addr}{zs:List V}{o:HO}(h:PrV H z y)(hr:H r=some (.lst zs)):PrV (upd H r o) z y:=by
 obtain⟨q,u,v,h1,h2,h3,h4⟩:=h;exact⟨q,u,v,h1,by rw [ah (λ z=>by rw [z,hr] at h2;cases h2)];exact h2,by rw [ah (λ z=>by rw [z,hr] at h3;cases h3)];exact h3,by rw [ah (λ z=>by rw [z,hr] at h4;cases h4)];exact h4⟩
def prD(z:List Int × List Int):PyData:=.tuple [.tuple (z.1.map PyData.int),.tuple (z.2.map PyData.int)]
def sQ{H:Hp}{f:V->Option PyData}:∀ {zs:List (List Int × List Int)}{ys:List V},Al (PrV H) zs ys->bf (ys.map (dQ H (dQ H (dQ H f))))=some (zs.map prD)
 | [],ys,h=>by rw [RV h.1];rfl
 | z::zs,[],h=>by have:=h.1;simp at this
 | z::zs,y::ys,h=>by
  obtain⟨q,u,v,rfl,hq,hu,hv⟩:=h.2 0 z y rfl rfl;have ih:=sQ (H:=H) (f:=f) (zs:=zs) (ys:=ys) ⟨by have:=h.1;simpa using this,λ i z y a b=>h.2 (i+1) z y (by simpa using a) (by simpa using b)⟩
  have e1:dQ H (dQ H (dQ H f)) (.ref q)=some (prD z):=by
   rw [gJ,hq]
   show xv (dQ H (dQ H f)) (.tup [.ref u,.ref v])=_
   rw [gH]
   show (bf [dQ H (dQ H f) (.ref u),dQ H (dQ H f) (.ref v)]).map PyData.tuple=_
   rw [nS hu,nS hv];rfl
  rw [RQ,e1,gU,ih];rfl
def wd{g:Int->Int}(hg:∀ x y,g x=g y->x=y)(ws rs:List Int)(j:Nat):bZ (ws.map g) (rs.map g) j=bZ ws rs j:=by
 unfold bZ;rw [getElem?_map]
 cases hj:rs[j]? with
 | none=>rfl
 | some c=>
  show (match (ws.map g).findIdx? (λ x=>decide (x=g c)) with|some i=>if (rs.map g)[i]? = some (g c) then [] else [(i,j)]|none=>[])=(match ws.findIdx? (λ x=>decide (x=c)) with|some i=>if rs[i]? = some c then [] else [(i,j)]|none=>[])
  have e:(ws.map g).findIdx? (λ x=>decide (x=g c))=ws.findIdx? (λ x=>decide (x=c)):=by
   rw [List.findIdx?_map];congr 1;funext x
   show decide (g x=g c)=decide (x=c)
   exact decide_eq_decide.mpr ⟨hg x c,λ h=>by rw [h]⟩
  rw [e]
  cases ws.findIdx? (λ x=>decide (x=c)) with
  | none=>rfl
  | some i=>
   show (if (rs.map g)[i]? = some (g c) then [] else [(i,j)])=(if rs[i]? = some c then [] else [(i,j)])
   rw [QL]
   cases hi:rs[i]? with
   | none=>rfl
   | some d=>
    show (if some (g d)=some (g c) then [] else [(i,j)])=(if some d=some c then [] else [(i,j)])
    by_cases hdc:d=c
    ·rw [hdc,Rc rfl,Rc rfl]
    ·rw [Q5 (λ h=>hdc (hg d c (Q2 h))),Q5 (λ h=>hdc (Q2 h))]
def wb{g:Int->Int}(hg:∀ x y,g x=g y->x=y)(ws rs:List Int)(n:Nat):aQ (ws.map g) (rs.map g) n=aQ ws rs n:=by
 unfold aQ;refine congrArg (λ f=>(List.range n).flatMap f) (funext λ j=>wd hg ws rs j)
def Ax{g:Int->Int}(hg:∀ x y,g x=g y->x=y)(ws:List Int):(ws.map g).Nodup ↔ ws.Nodup:=by
 unfold List.Nodup;rw [pairwise_map];exact⟨λ h=>h.imp λ h e=>h (by rw [e]),λ h=>h.imp λ h e=>h (hg _ _ e)⟩
def ur(ms:List Int)(z:Nat × Nat):List Int × List Int:=(ao ms (z.1:Int),ao ms (z.2:Int))
def yc{H:Hp}{ms:List Int}{ys:List V}{i:Nat}{y:V}(al:Al (bD H) (bE ms) ys)(h:ys[i]? = some y):∃ q,y=.ref q/\H q=some (.tup ((ao ms (i:Int)).map V.int)):=by
 obtain⟨z,hz,q,hq,aS⟩:=cu al h;unfold bE at hz;rw [getElem?_map] at hz;obtain⟨k,hk,rfl⟩:=Option.map_eq_some_iff.mp hz
 have:k=i:=by
  have hi:=(QD.mp hk).1;rw [QB hi] at hk;have:=Q2 hk;rw [UG] at this;exact this.symm
 subst this;exact⟨q,hq,aS⟩
def Hu{H:Hp}{ms:List Int}{ys zs:List V}{L:List (Nat × Nat)}(al:Al (bD H) (bE ms) ys)(aS:Al (jd H ys) L zs):Al (PrV H) (L.map (ur ms)) zs:=by
 refine⟨by rw [aS.1,QE],λ k z y hz hy=>?_⟩;rw [QL] at hz;obtain⟨ij,hk,rfl⟩:=QJ.mp hz;obtain⟨q,u,v,rfl,hq,hu,hv⟩:=aS.2 k ij y hk hy;obtain⟨a,rfl,ha⟩:=yc al hu;obtain⟨b,rfl,hb⟩:=yc al hv;exact⟨q,a,b,rfl,hq,ha,hb⟩
def Ar{ws rs:List Int}{j:Nat}:∀ z∈bZ ws rs j,z.1 < ws.length/\z.2 < rs.length:=λ z hz=>by
 unfold bZ at hz
 cases hj:rs[j]? with
 | none=>rw [hj] at hz;cases hz
 | some c=>
  rw [hj] at hz;have aS:z∈(match ws.findIdx? (λ x=>decide (x=c)) with|some i=>if rs[i]? = some c then [] else [(i,j)]|none=>[]):=hz
  cases hf:ws.findIdx? (λ x=>decide (x=c)) with
  | none=>rw [hf] at aS;cases aS
  | some i=>
   rw [hf] at aS;have aX:z∈(if rs[i]? = some c then [] else [(i,j)]):=aS;rw [R0] at hf;split at aX
   ·cases aX
   ·rw [QF.mp aX];exact⟨hf.1,(QD.mp hj).1⟩
def Ap{ws rs:List Int}{n:Nat}:∀ z∈aQ ws rs n,z.1 < ws.length/\z.2 < rs.length:=λ z hz=>by
 unfold aQ at hz;obtain⟨j,_,h⟩:=List.mem_flatMap.mp hz;exact Ar z h
def P9(g:Int->Int):Prop:=∀ x y,g x=g y->x=y
def Jk{b m:Int}(h:1<=b):P9 (λ c=>c * b+m):=λ x y e=>by
 have e':x * b+m=y * b+m:=e;exact Int.eq_of_mul_eq_mul_right (show b ≠ 0 by omega) %[0|8]
def MU{α β:Type}{f:α->β}{R:β->V->Prop}{zs:List α}{ys:List V}(h:Al (λ z y=>R (f z) y) zs ys):Al R (zs.map f) ys:=by
 refine⟨by rw [h.1,QE],λ i z y hz hy=>?_⟩;rw [QL] at hz;obtain⟨a,ha,rfl⟩:=QJ.mp hz;exact h.2 i a y ha hy
def Ff{H:Hp}{ms:List Int}{ys:List V}{i:Nat}(al:Al (bD H) (bE ms) ys)(h:i < ys.length):∃ q,atI ys (i:Int)=some (.ref q)/\H q=some (.tup ((ao ms (i:Int)).map V.int)):=by
 obtain⟨q,hq,aS⟩:=yc al (QB h);exact⟨q,cH (by rw [QB h,hq]),aS⟩
def PrV.len{ms:List Int}{L:List (Nat × Nat)}:∀ z∈L.map (ur ms),z.1.length=ms.length/\z.2.length=ms.length:=λ z hz=>by
 obtain⟨ij,_,rfl⟩:=QG.mp hz
 show (ao ms _).length=_/\(ao ms _).length=_
 rw [br,br];exact⟨rfl,rfl⟩
def mU(ms ws rs:List Int)(os:List (Int × Int)):(((aQ ws rs rs.length).map (ur ms)).all λ z=>crB os z.1 z.2)=nK ms ws rs os:=by
 rw [all_map];rfl
abbrev zN  (p:Addr) (a:Int) (H:Hp) (Q:VK) (E:XK):Prop:=∃ z:List Int × List Int,PrV H z (.ref p)/\0<=a/\a < (z.1.length:Int)/\z.2.length=z.1.length/\Q (.int (cw z.1 z.2 a.toNat)) H
def FV  : Sp:=λ vs H Q E=>∃ (p:Addr) (a:Int),vs=[.ref p,.int a]/\(zN  p a H Q E)
def nW  (p:Addr) (a:Int) (H:Hp) (Q:VK) (E:XK):FV  [.ref p,.int a] H Q E=(zN  p a H Q E):=gN (f:=λ (p:Addr) (a:Int)=>[.ref p,.int a]) (λ _ _ _ _ h=>by cases h;exact⟨rfl,rfl⟩) p a
def yf(T:Tx K mg t):bj P w K mg base CX0 1 t.a_Vn t.d_Vn ["pair", "axis"] FV:=by
 refine T.F_Vn.ok O2 (λ _ _ _ _ h=>gO h λ _ _=>rfl) (λ c A o s H vs Q E hr h=>?_)
 ·obtain⟨p,a,rfl,z,⟨_,u,v,aS,hq,hu,hv⟩,a0,a1,hl,k⟩:=h;cases aS;refine⟨_,%[%[%[eT,%[bY,%[bY,%[0|0],%[0|2],(λ _ _=>rfl)|13],%[1|0],(λ _ _=>rfl)|13],%[bY,%[bY,%[0|0],%[0|2],(λ _ _=>rfl)|13],%[1|0],(λ _ _=>rfl)|13]|11]|12]|10],?_⟩;rw [show aw ["pair", "axis"] [.ref p,.int a]=[some (.ref p),some (.int a)] from rfl];have h1:=dj (vals:=z.1) a0 a1;have h2:=dj (vals:=z.2) a0 (by rw [hl];exact a1);unfold cw at k;ac_rfl
def Bx{d:Int}{H:Hp}{Q:VK}{ns:List Int}(h:∀ M,Nj d ns M->Q (.int M) H):yk d H Q ns:=⟨λ e=>h d (.inl ⟨e,rfl⟩),λ M hM hle=>h M (.inr ⟨hM,hle⟩)⟩
def By{d:Int}{H:Hp}{Q:VK}{ns:List Int}(h:∀ M,Cs d ns M->Q (.int M) H):yl d H Q ns:=⟨λ e=>h d (.inl ⟨e,rfl⟩),λ M hM hle=>h M (.inr ⟨hM,hle⟩)⟩
def FF(n:Nat)(Z:List PP):Prop:=∀ z∈Z,z.1.length=n/\z.2.length=n
def ki(n:Nat)(Z:List PP):Prop:=∀ a:Nat,a < n->Cu Z a
def KJ(n:Nat)(L:List PP)(H:Hp)(x:V):Prop:=(x=.non/\ki n L)\/∃ (a:Nat) (w:Int) (q:Addr),x=.ref q/\H q=some (.tup [.int (a:Int),.int w])/\a < n/\Ct L a w
abbrev vF  (l:Addr) (n:Int) (H:Hp) (Q:VK) (E:XK):Prop:=∃ (Z:List PP) (zs:List V) (m:Nat),n=(m:Int)/\m<=8/\H l=some (.lst zs)/\Al (PrV H) Z zs/\Z.length<=60/\FF m Z/\∀ (x:V) (H':Hp),Ext H H'->KJ m Z H' x->Q x H'
def xW  : Sp:=λ vs H Q E=>∃ (l:Addr) (n:Int),vs=[.ref l,.int n]/\(vF  l n H Q E)
def vg  (l:Addr) (n:Int) (H:Hp) (Q:VK) (E:XK):xW  [.ref l,.int n] H Q E=(vF  l n H Q E):=gN (f:=λ (l:Addr) (n:Int)=>[.ref l,.int n]) (λ _ _ _ _ h=>by cases h;exact⟨rfl,rfl⟩) l n
def lO(T:Tx K mg t):bj P w K mg base CX0 2 t.a_wX t.d_wX ["pairs", "many"] xW:=by
 have G_Vn:=%[yf|46];refine T.F_wX.ok cb (λ _ _ _ _ h=>gO h λ _ _=>rfl) (λ c A o s H vs Q E hr h=>?_)
 ·obtain⟨l,_,rfl,Z,zs,m,rfl,m8,hl,al,b5,a8,kk⟩:=h;refine⟨_,%[%[QT,rfl,%[∅,T.z_range,%[%[1|0]|1],∅|35],%[(2),_,cb.nd,rfl,(Or.inr rfl),%[0|7]|15],%[%[(["pair", "pairs", "many", "axis", "gaps", "low", "high"]),(1),(3),_,cb.nd,rfl,(Or.inl rfl),(aC (aa cY) ["pairs", "many", "axis", "gaps", "low", "high"] rfl rfl nofun),rfl,%[%[0|0]|18],(λ C s₀ H₀ ex pn=>%[(0),_,(show List.Nodup (["pair", "pairs", "many", "axis", "gaps", "low", "high"]:List Str) from by decide +kernel),rfl,(Or.inl rfl),%[0|7]|15]),(λ C s₀ H₀ ex pn=>(@aI _)),(λ C s₀ H₀ ex pn=>%[Vn,%[%[0|0],%[%[3|0]|1]|1]|3]),∅,(by intros;rfl),%[0|7]|44],%[%[4,cb,(@qv _ ("min") _ _ _ _ _ _ _ _ _ _ (xb rfl) ∅ T.z_min nofun %[%[3|0]|1] (@yJ _ _ _ _ _ _ _ %[0|2] (@Fj _)) ⋯ ⋯ ∅ ∅ ∅ ∅ ∅)|4],%[%[5,cb,(@qv _ ("max") _ _ _ _ _ _ _ _ _ _ (xf rfl) ∅ T.z_max nofun %[%[3|0]|1] (@yJ _ _ _ _ _ _ _ %[0|2] (@Fj _)) ⋯ ⋯ ∅ ∅ ∅ ∅ ∅)|4],%[%[(PW.pt (@mD _ _ _ _ _ _ _ %[Kl,%[4|0],%[0|2],(au _)|14] (@kl _ _ _ _ %[si,%[5|0],%[0|2],(au _)|14]))),%[%[%[%[%[2|0],%[%[0|2]|1]|1]|28]|12]|10],(@aq _)|17],%[%[(PW.pt (@mD _ _ _ _ _ _ _ %[sf,%[5|0],%[0|2],(au _)|14] (@kl _ _ _ _ %[vN,%[4|0],%[0|2],(au _)|14]))),%[%[%[%[%[2|0],%[%[fZ,%[0|2]|43]|1]|1]|28]|12]|10],(@aq _)|17]|10]|9]|9]|9]|9],(by intros;rfl)|21],%[%[(@mF _ _ _)|12]|10]|9],?_⟩;rw [show aw ["pairs", "many", "axis", "gaps", "low", "high"] [.ref l,.int (m:Int)]=[some (.ref l),some (.int (m:Int)),none,none,none,none] from rfl];clear G_Vn;exists kk;exists a8;ac_rfl;refine⟨by omega,by omega,?_⟩;refine hG (λ i σ H'=>∃ v2 v3 v4 v5:Option V,σ=[some (.ref l),some (.int (m:Int)),v2,v3,v4,v5]/\Ext H H'/\ki i Z) ⟨none,none,none,none,rfl,Ext.refl _,λ a h=>absurd h (Uj _)⟩ ?_ ?_
  ·rintro i _ H1 hi ⟨v2,v3,v4,v5,rfl,e1,aS⟩;have a9:i < m:=by have:i < ((m:Int)).toNat:=hi;omega
   have bt:=e1.at hl;have bS:=al.imp λ _ _ t=>PrV.ext t e1;have wk:=dE (K:=K) (R:=λ z x H'=>PrV H' z x) (λ _ _ _ _ h e=>PrV.ext h e) bt bS;exists aS;clear hi bS;simp! only [↓aA];refine bc Z (λ _=>true) (λ z=>.int (cw z.1 z.2 i)) (λ z x H'=>PrV H' z x) wk.1 wk.2 (aj %[0|8]) ?_ ?_
   ·intro D z y H' N1 N0 hz hD e hy k1 _;have b2:=hy;obtain⟨y',_,_,rfl,_⟩:=b2;have b3:=k1 rfl H' (Ext.refl _);have b6:=a8 () z hz;clear k1 kk wk hz;simp! only [↓aV,↓aO];rw [nW];refine⟨z,hy,by omega,by omega,by omega,?_⟩;rw [Rv,QO];exact b3
   ·intro D H2 hD e2 h2;rw [jc] at h2;have a6:H2 D=some (.lst ((nL Z i).map V.int)):=by rw [h2];unfold nL;rw [map_map];rfl
    clear h2 wk hD bt;ac_rfl;refine Bx λ lo aX=>?_;ac_rfl;refine By λ a4 a3=>?_;have a5:=e1.trans e2
    by_cases ha:0<=lo/\0 < a4
    ·have hh:=Ew aX a3 ha.1 ha.2;obtain⟨b7,cf⟩:=ha;exists hh;clear aX a3 a6;ac_rfl;intro r H3 b4 e3 h3;rw [Rv] at h3;exact kk () (.ref r) H3 (a5.trans e3) (.inr ⟨i,_,r,rfl,h3,a9,hh ()⟩)
    ·by_cases hb:a4<=0/\lo < 0
     ·have hh:=Ex aX a3 hb.1 hb.2;obtain⟨cm,cS⟩:=hb;have cT:¬ 0<=lo:=by omega
      exists hh;clear aX a3 a6 ha;ac_rfl;intro r H3 b4 e3 h3;rw [Rv] at h3;exact kk () (.ref r) H3 (a5.trans e3) (.inr ⟨i,_,r,rfl,h3,a9,hh ()⟩)
     ·have b1:=Jl aX a3 ha hb
      have a7:ki (i+1) Z:=λ a h=>by
       by_cases e:a=i
       ·rw [e];exact b1
       ·exact aS () a %[0|8]
      exists a7;clear aX a3 kk a6 b1
      by_cases q1:0<=lo
      ·have q2:¬ 0 < a4:=λ h=>ha ⟨q1,h⟩;have q3:¬ lo < 0:=by omega
       have q4:a4<=0:=by omega
       clear ha hb;ac_rfl;exact⟨_,_,_,_,rfl,a5,a7 ()⟩
      ·have q3:lo < 0:=by omega
       have q4:¬ a4<=0:=λ h=>hb ⟨h,q3⟩;clear ha hb;ac_rfl;exact⟨_,_,_,_,rfl,a5,a7 ()⟩
  ·rintro _ H1 ⟨v2,v3,v4,v5,rfl,e1,aS⟩;rw [QO] at aS;have k':=kk () .non H1 e1 (.inl ⟨rfl,aS⟩);clear kk aS;ac_rfl
def yH(a b:PP):PyData.eqv (prD a) (prD b)=decide (a=b):=by
 unfold prD;rw [qL,ir,ir,ju,u7,u7,Bool.and_true];obtain⟨a1,a2⟩:=a;obtain⟨b1,b2⟩:=b
 by_cases h1:a1=b1
 ·by_cases h2:a2=b2
  ·simp [h1,h2]
  ·simp [h1,h2]
 ·simp [h1]
def yI(Y:List PP)(z:PP):((Y.map prD).any λ y=>PyData.eqv y (prD z))=decide (z∈Y):=by
 rw [List.any_map];apply Sx.mpr;rw [Ug,T3];constructor
 ·rintro ⟨y,hy,e⟩;have e':PyData.eqv (prD y) (prD z)=true:=e;rw [yH] at e';rw [←Rp e'];exact hy
 ·intro h;exact⟨z,h,by show PyData.eqv (prD z) (prD z)=true;rw [yH];exact Q4 rfl⟩
def FA{H:Hp}{f:V->Option PyData}{z:PP}{y:V}(h:PrV H z y):dQ H (dQ H (dQ H f)) y=some (prD z):=by
 obtain⟨q,u,v,rfl,hq,hu,hv⟩:=h;rw [gJ,hq]
 show xv (dQ H (dQ H f)) (.tup [.ref u,.ref v])=_
 rw [gH]
 show (bf [dQ H (dQ H f) (.ref u),dQ H (dQ H f) (.ref v)]).map PyData.tuple=_
 rw [nS hu,nS hv];rfl
def Et(a:Int)(xs:List Int):inV (.int a) (xs.map V.int)=decide (a∈xs):=by
 unfold inV;rw [List.any_map];apply Bool.eq_iff_iff.mpr;rw [List.any_eq_true,decide_eq_true_eq];constructor
 ·rintro ⟨y,hy,e⟩;have e':eqV (.int y) (.int a)=true:=e;have:y=a:=by simpa [eqV] using e'
  rw [←this];exact hy
 ·intro h;exact⟨a,h,by show eqV (.int a) (.int a)=true;simp [eqV]⟩
def ma(Z Y:List PP)(m:Nat):Prop:=(∀ y∈Y,y∈Z)/\∀ a:Nat,a < m->((∃ z∈Z,0 < cw z.1 z.2 a)->∃ y∈Y,0 < cw y.1 y.2 a)/\((∃ z∈Z,cw z.1 z.2 a < 0)->∃ y∈Y,cw y.1 y.2 a < 0)
def upB(a:Nat)(z:PP):Bool:=decide (0 < cw z.1 z.2 a)
def vS(a:Nat)(z:PP):Bool:=decide (cw z.1 z.2 a < 0)
def uK{α:Type}{p:α->Bool}{l:List α}{z:α}(hz:z∈l)(h:p z=true):∃ x,x∈(l.filter p).take 1/\p x=true:=by
 have hm:z∈l.filter p:=RK.mpr ⟨hz,h⟩
 cases hf:l.filter p with
 | nil=>rw [hf] at hm;cases hm
 | cons x r=>
  have hx:x∈l.filter p:=by rw [hf];exact QP
  exact⟨x,by simp,(RK.mp hx).2⟩
def ma.step{Z Y Y':List PP}{i:Nat}(h:ma Z Y i)(h1:∀ y∈Y,y∈Y')(h2:∀ x∈(Z.filter (upB i)).take 1++(Z.filter (vS i)).take 1,x∈Y')(h3:∀ y∈Y',y∈Z):ma Z Y' (i+1):=by
 refine⟨h3,λ a ha=>?_⟩
 by_cases e:a=i
 ·subst e;refine⟨λ ⟨z,hz,hg⟩=>?_,λ ⟨z,hz,hg⟩=>?_⟩
  ·obtain⟨x,hx,hp⟩:=uK (p:=upB a) hz (Q4 hg);exact⟨x,h2 x (QZ _ hx),Rp hp⟩
  ·obtain⟨x,hx,hp⟩:=uK (p:=vS a) hz (Q4 hg);exact⟨x,h2 x (Q8 _ hx),Rp hp⟩
 ·obtain⟨p1,p2⟩:=h.2 a %[0|8];refine⟨λ hz=>?_,λ hz=>?_⟩
  ·obtain⟨y,hy,hg⟩:=p1 hz;exact⟨y,h1 y hy,hg⟩
  ·obtain⟨y,hy,hg⟩:=p2 hz;exact⟨y,h1 y hy,hg⟩
def zE{α:Type}{R:α->V->Prop}{zs:List α}{ys:List V}(h:Al R zs ys)(n:Nat):Al R (zs.take n) (ys.take n):=by
 refine⟨by rw [Rf,Rf,h.1],λ i z y hz hy=>?_⟩;rw [UH] at hz hy;split at hz
 ·rename_i hi;rw [Rc hi] at hy;exact h.2 i z y hz hy
 ·cases hz
abbrev lJ  (l:Addr) (n:Int) (H:Hp) (Q:VK) (E:XK):Prop:=∃ (Z:List PP) (zs:List V) (m:Nat),n=(m:Int)/\m<=8/\H l=some (.lst zs)/\Al (PrV H) Z zs/\Z.length<=60/\FF m Z/\∀ (Y:List PP) (r:Addr) (ys:List V) (H':Hp),Ext H H'->H r=none->H' r=some (.lst ys)->Al (PrV H') Y ys->ma Z Y m->Y.length<=2 * m->Q (.ref r) H'
def kJ  : Sp:=λ vs H Q E=>∃ (l:Addr) (n:Int),vs=[.ref l,.int n]/\(lJ  l n H Q E)
def ui  (l:Addr) (n:Int) (H:Hp) (Q:VK) (E:XK):kJ  [.ref l,.int n] H Q E=(lJ  l n H Q E):=gN (f:=λ (l:Addr) (n:Int)=>[.ref l,.int n]) (λ _ _ _ _ h=>by cases h;exact⟨rfl,rfl⟩) l n
def jQ(T:Tx K mg t):bj P w K mg base CX0 2 t.a_wO t.d_wO ["pairs", "many"] kJ:=by
 have G_Vn:=%[yf|46];refine T.F_wO.ok bu (λ _ _ _ _ h=>gO h λ _ _=>rfl) (λ c A o s H vs Q E hr h=>?_)
 ·obtain⟨l,_,rfl,Z,zs,m,rfl,m8,hl,al,eB,c4,kk⟩:=h;refine⟨_,%[%[2,bu,%[(@cx _)|20]|4],%[%[QT,rfl,%[∅,T.z_range,%[%[1|0]|1],∅|35],%[(3),_,bu.nd,rfl,(Or.inr rfl),%[0|7]|15],%[%[(["pair", "pairs", "many", "chosen", "axis", "above", "below", "!pair"]),(1),(4),_,bu.nd,rfl,(Or.inl rfl),(aC (aa bM) ["pairs", "many", "chosen", "axis", "above", "below", "pair"] rfl rfl nofun),rfl,%[%[0|0]|18],(λ C s₀ H₀ ex pn=>%[(0),_,(show List.Nodup (["pair", "pairs", "many", "chosen", "axis", "above", "below", "!pair"]:List Str) from by decide +kernel),rfl,(Or.inl rfl),%[0|7]|15]),(λ C s₀ H₀ ex pn=>(@nO _ _ _ %[si,%[Vn,%[%[0|0],%[%[4|0]|1]|1]|3],%[0|2],(au _)|14])),(λ C s₀ H₀ ex pn=>%[0|0]),∅,(by intros;rfl),%[0|7]|44],%[%[(["pair", "pairs", "many", "chosen", "axis", "above", "below", "!pair"]),(1),(5),_,bu.nd,rfl,(Or.inl rfl),(aC (aa bM) ["pairs", "many", "chosen", "axis", "above", "below", "pair"] rfl rfl nofun),rfl,%[%[0|0]|18],(λ C s₀ H₀ ex pn=>%[(0),_,(show List.Nodup (["pair", "pairs", "many", "chosen", "axis", "above", "below", "!pair"]:List Str) from by decide +kernel),rfl,(Or.inl rfl),%[0|7]|15]),(λ C s₀ H₀ ex pn=>(@nO _ _ _ %[vN,%[Vn,%[%[0|0],%[%[4|0]|1]|1]|3],%[0|2],(au _)|14])),(λ C s₀ H₀ ex pn=>%[0|0]),∅,(by intros;rfl),%[0|7]|44],%[%[QT,rfl,%[%[fi,%[B4,%[4|0],(@df _),%[%[0|2]|39]|38],%[B4,%[5|0],(@df _),%[%[0|2]|39]|38]|11]|18],%[6,bu|5],%[%[%[(qx hr.units),%[6|0],%[2|0],(by with_unfolding_all rfl)|14],%[%[%[Q3,RG,RF,b8,%[2|0],%[%[6|0]|1],∅,∅,∅,∅,∅|33],∅|19]|10],(@aq _)|17]|10],(by intros;rfl)|21]|10]|9]|9],(by intros;rfl)|21],%[%[%[2|0]|12]|10]|9]|9],?_⟩;rw [show aw ["pairs", "many", "chosen", "axis", "above", "below", "pair"] [.ref l,.int (m:Int)]=[some (.ref l),some (.int (m:Int)),none,none,none,none,none] from rfl];clear G_Vn;exists kk;exists c4;ac_rfl;intro r H1 dr e1 h1;ac_rfl;refine⟨by omega,by omega,?_⟩;refine hG (λ i σ H'=>∃ (Y:List PP) (ys:List V) (v3 v4 v5 v6:Option V),σ=[some (.ref l),some (.int (m:Int)),some (.ref r),v3,v4,v5,v6]/\Ext H H'/\H' r=some (.lst ys)/\Al (PrV H') Y ys/\Y.length<=2 * i/\ma Z Y i) ⟨[],[],none,none,none,none,rfl,e1,h1,Al.nil,QK _,(λ y h=>by cases h),λ a h=>absurd h (Uj _)⟩ ?_ ?_
  ·rintro i _ H2 hi ⟨Y,ys,v3,v4,v5,v6,rfl,e2,h2,bt,b6,a4⟩;have eH:i < m:=by have:i < ((m:Int)).toNat:=hi;omega
   have c5:=e2.at hl;have dy:=al.imp λ _ _ t=>PrV.ext t e2;have wk:=dE (K:=K) (R:=λ z x H'=>PrV H' z x) (λ _ _ _ _ h e=>PrV.ext h e) c5 dy;exists a4;exists bt;clear hi;simp! only [↓aA];refine dH Z (upB i) (λ z x H'=>PrV H' z x) (λ D z y H'=>PrV H' z y) wk.1 wk.2 (λ D _ y H1 H2 h e=>h.ext e) (λ D _ y H1 xs o h hD=>h.upd hD) (aj %[0|8]) ?_ ?_
   ·intro D z y H' N1 N0 hz hD e _ hy k1 k0;have c6:=hy;obtain⟨y',_,_,rfl,_⟩:=c6;have aS:=λ h=>k1 h (.ref y') H' (Ext.refl _) hy;have a3:=λ h=>k0 h H' (Ext.refl _);have ea:=c4 () z hz;unfold upB at aS a3;exists aS;exists a3;clear k1 k0 kk wk hz;simp! only [↓aV,↓aO];rw [nW];refine⟨z,hy,by omega,by omega,by omega,?_⟩;rw [Int.zero_add,Int.toNat_natCast];generalize cw z.1 z.2 i=g at aS a3
    by_cases hg:0 < g
    ·have k2:=aS () (Q4 hg);clear aS a3;ac_rfl
    ·have k2:=a3 () (Ro hg);clear aS a3;ac_rfl
   intro D1 bS H3 eb e3 h3 dz;have d1:=e3.at c5;have cT:=dy.imp λ _ _ t=>PrV.ext t e3;have b7:=dE (K:=K) (R:=λ z x H'=>PrV H' z x) (λ _ _ _ _ h e=>PrV.ext h e) d1 cT;clear wk eb c5;ac_rfl;refine dH Z (vS i) (λ z x H'=>PrV H' z x) (λ D z y H'=>PrV H' z y) b7.1 b7.2 (λ D _ y H1 H2 h e=>h.ext e) (λ D _ y H1 xs o h hD=>h.upd hD) (aj %[0|8]) ?_ ?_
   ·intro D z y H' N1 N0 hz hD e _ hy k1 k0;have c6:=hy;obtain⟨y',_,_,rfl,_⟩:=c6;have aS:=λ h=>k1 h (.ref y') H' (Ext.refl _) hy;have a3:=λ h=>k0 h H' (Ext.refl _);have ea:=c4 () z hz;unfold vS at aS a3;exists aS;exists a3;clear k1 k0 kk b7 hz;simp! only [↓aV,↓aO];rw [nW];refine⟨z,hy,by omega,by omega,by omega,?_⟩;rw [Int.zero_add,Int.toNat_natCast];generalize cw z.1 z.2 i=g at aS a3
    by_cases hg:g < 0
    ·have k2:=aS () (Q4 hg);clear aS a3;ac_rfl
    ·have k2:=a3 () (Ro hg);clear aS a3;ac_rfl
   intro D2 b1 H4 ec e4 h4 d2;have d3:=e4.at h3;have c7:=e3.trans e4;have c0:=dz.imp λ _ _ t=>PrV.ext t e4;have aX:=uH (zE c0 1) (zE d2 1);have a7:=λ (_:Unit)=>λ {Y':List PP}=>(a4 ()).step (Y':=Y');exists aX;clear b7 ec d1 dz d2 c0 cT h3;have eg:mB bS none (some 1)=bS.take 1:=yr bS 1 ⋯;have ei:mB b1 none (some 1)=b1.take 1:=yr b1 1 ⋯;ac_rfl;intro t1 H5 ej e5 h5;have d4:=e5.at h4;clear ej h4 d3 eg;ac_rfl;intro t2 H6 el e6 h6;have d5:=e6.at h5;have d6:(bS.take 1).length+(b1.take 1).length<=sizeLine:=aj (by rw [Rf,Rf];omega);clear el d4 h5 ei;ac_rfl;intro t3 H7 c8 e7 h7;have de:=e5.trans (e6.trans e7);have cf:=c7.trans de;have cm:=(aX ()).imp λ _ _ t=>PrV.ext t de;have en:(bS.take 1++b1.take 1).length<=2:=by rw [QX,Rf,Rf];omega
   have nt:t3 ≠ r:=λ z=>by rw [z,(c7.trans (e5.trans e6)).at h2] at c8;cases c8
   have c1:=cf.at h2;have c2:=(bt ()).imp λ _ _ t=>PrV.ext t cf
   have b4:∀ x∈(Z.filter (upB i)).take 1++(Z.filter (vS i)).take 1,x∈Z:=λ x hx=>by
    rcases Q6.mp hx with hx|hx
    ·exact(RK.mp (RM hx)).1
    ·exact(RK.mp (RM hx)).1
   have cS:=(a4 ()).1;have ep:=e2.trans cf;generalize (Z.filter (upB i)).take 1++(Z.filter (vS i)).take 1=XX at cm b4 a7;generalize bS.take 1++b1.take 1=xs at h7 cm en;exists b4;exists cS;clear c8 h6 d5 d6 aX e5 e6 e7 de c7 cf bt a4;ac_rfl;refine cG (xs:=xs) (λ j σ H'=>∃ (Y':List PP) (a6:List V) (v6:Option V),σ=[some (.ref l),some (.int (m:Int)),some (.ref r),some (.int (0+(i:Int))),some (.ref D1),some (.ref D2),v6]/\Ext H H'/\H' t3=some (.lst xs)/\H' r=some (.lst a6)/\Al (PrV H') Y' a6/\Y'.length<=2 * i+j/\(∀ y∈Y,y∈Y')/\(∀ x∈XX.take j,x∈Y')/\(∀ y∈Y',y∈Z)/\Al (PrV H') XX xs) ⟨Y,ys,_,rfl,ep,h7,c1,c2,b6,λ _ h=>h,(λ x h=>by cases h),cS (),cm⟩ (λ j σ H' _ ⟨_,_,_,_,_,h,_⟩=>h) ?_ ?_
   ·rintro j y _ H8 hj ⟨Y',a6,et,rfl,e8,d7,b5,a5,d8,b2,a9,b3,a8⟩;have ew:j < XX.length:=by have:=(QD.mp hj).1;rw [a8.1] at this;exact this
    obtain⟨z,hz⟩:∃ z,XX[j]? = some z:=⟨_,QB ew⟩;have pz:=a8.2 j z y hz hj;have ey:=b4 () z (QV hz);have eM:j < 2:=by have:=a8.1;omega
    have dp:gY H8 6 y=some (prD z):=FA (f:=dQ H8 (dQ H8 (dQ H8 noD))) pz;have d0:bf (a6.map (gY H8 5))=some (Y'.map prD):=sQ (f:=dQ H8 (dQ H8 noD)) a5
    have dl:gY H8 6 (.ref r)=some (.list (Y'.map prD)):=by
     rw [jt,b5]
     show xv (gY H8 5) (.lst a6)=_
     rw [gI,d0];rfl
    have ez:a6.length<=20:=by rw [a5.1];omega
    have htk:XX.take (j+1)=XX.take j++[z]:=by rw [RD,hz];rfl
    exists dp;exists dl;exists htk;exists a5;exists a8;exists b2;exists a9;exists b3;exists pz;clear d0 hj hz b4 cS a7 kk;simp! only [↓aA];refine⟨_,_,dp (),dl (),?_⟩;rw [Rc rfl,yI]
    by_cases hm:z∈Y'
    ·have fin:(∀ x∈XX.take (j+1),x∈Y'):=λ x hx=>by
      rw [htk ()] at hx
      rcases Q6.mp hx with hx|hx
      ·exact a9 () x hx
      ·rw [QF.mp hx];exact hm
     rw [Q4 hm];exists fin;clear hm;ac_rfl;exact⟨Y',a6,_,rfl,e8,rfl,a5 (),by omega,b2 (),fin (),b3 (),a8 ()⟩
    ·rw [Ro hm]
     have fin:(∀ x∈XX.take (j+1),x∈Y'++[z]):=λ x hx=>by
      rw [htk ()] at hx
      rcases Q6.mp hx with hx|hx
      ·exact QZ _ (a9 () x hx)
      ·exact Q8 _ hx
     have e0:a6.length < sizeLine:=eU %[0|8];exists fin;clear hm;ac_rfl
     exact⟨Y'++[z],a6++[y],_,rfl,e8.put dr,by rw [ah nt];exact d7,rfl,nX ((a5 ()).imp λ _ _ t=>PrV.upd t b5) (PrV.upd (pz ()) b5),by rw [QX,RN];omega,λ y hy=>QZ _ (b2 () y hy),fin (),λ y hy=>by
      rcases Q6.mp hy with hy|hy
      ·exact b3 () y hy
      ·rw [QF.mp hy];exact ey,(a8 ()).imp λ _ _ t=>PrV.upd t b5⟩
   ·rintro _ H8 ⟨Y',a6,et,rfl,e8,d7,b5,a5,d8,b2,a9,b3,a8⟩;rw [a8.1,Rz] at a9;have c3:=a7 () b2 a9 b3;have d9:Y'.length<=2 * (i+1):=by omega
    exists c3;exists a5;clear a7 b2 a9 b3 a8 b4 cS c2 cm h7 c1;ac_rfl;exact⟨Y',a6,_,_,_,_,rfl,e8,rfl,a5 (),d9,c3 ()⟩
  ·rintro _ H2 ⟨Y,ys,v3,v4,v5,v6,rfl,e2,h2,bt,b6,a4⟩;rw [QO] at a4 b6;have k':=kk () Y r ys H2 e2 dr h2 bt a4 b6;clear kk a4 bt;ac_rfl
def xu.len{n:Nat}{os:List (Int × Int)}(h:xu n os):os.length<=n:=by
 have:=h.full.1;rw [QX] at this;omega
def LoI.done{n:Nat}{P:List PP}{os:List (Int × Int)}(h:LoI n P [] os):∀ z∈P,crB (os++jO n os) z.1 z.2=true:=λ z hz=>by
 rcases h.crr z hz with h|h
 ·cases h
 ·exact nV h
def GA(P:List PP)(n:Nat)(H:Hp)(x:Addr):Prop:=(∃ (os:List (Int × Int)) (r:Addr),H x=some (.tup [.str "loops",.ref r])/\aP H r (os.map λ o=>[o.1,o.2])/\eS os n/\∀ z∈P,crB os z.1 z.2=true)\/∃ (L Y:List PP) (r:Addr) (ys:List V),H x=some (.tup [.str "none",.ref r])/\H r=some (.lst ys)/\Al (PrV H) Y ys/\ma L Y n/\ki n L/\¬ L=[]/\Y.length<=2 * n/\∀ z∈L,z∈P
def MV(H H':Hp)(x:Addr):Prop:=∀ w r,H' x=some (.tup [w,.ref r])->H r=none
abbrev rf(C:Addr)(u:Addr)(v:Addr)(H:Hp)(Q:VK)(E:XK):Prop:=∃ (room f1 f2:Int) (A B:List (Int × Int)) (ms:List Int),aE C H u room f1 A/\aE C H v room f2 B/\fh A/\fh B/\(A.map λ a=>a.1)=ms/\(B.map λ a=>a.1)=ms/\ae ms<=60/\(af f1 A).Nodup/\∀ (x:Addr) (H':Hp),Ext H H'->MV H H' x->GA ((aQ (af f1 A) (af f2 B) (af f2 B).length).map (ur ms)) ms.length H' x->Q (.ref x) H'
def sG(C:Addr):Sp:=λ vs H Q E=>∃ (u:Addr) (v:Addr),vs=[.ref u,.ref v]/\(rf C u v H Q E)
def iT(C:Addr)(u:Addr)(v:Addr)(H:Hp)(Q:VK)(E:XK):sG C [.ref u,.ref v] H Q E=(rf C u v H Q E):=gN (f:=λ (u:Addr) (v:Addr)=>[.ref u,.ref v]) (λ _ _ _ _ h=>by cases h;exact⟨rfl,rfl⟩) u v
def o8(T:Tx K mg t):bj P w K mg base CX0 8 t.a_Bq t.d_Bq ["to", "source"] (sG t.a_Vm):=by
 have G_Be:=%[mh|46];have G_wX:=%[lO|46];have G_Vn:=%[yf|46];have G_wO:=%[jQ|46];refine T.F_Bq.ok bx (λ _ _ _ _ h=>gO h λ _ _=>rfl) (λ c A o s H vs Q E hr h=>?_)
 ·obtain⟨u,v,rfl,room,f1,f2,A,B,ms,vu,vv,hA,hB,m1,m2,ho,d3,kk⟩:=h;obtain⟨dx,D,hu,tD⟩:=vu.ob;obtain⟨ax,hD,d4⟩:=tD;have hp:ax.length=ms.length:=by rw [d4.1,←m1];unfold axL;rw [length_map,length_map]
  have c1:=T.cl_View;have c3:=T.na_View_axes;have g3:=cV room f1 D;refine⟨_,%[%[2,bx,%[Be,%[%[0|0],%[%[1|0]|1]|1]|3]|4],%[%[3,bx,%[len,ak,%[%[%[0|0],rfl|27]|1]|6]|4],%[%[4,bx,%[(@cx _)|20]|4],%[(@gQ _ _ (5) _ _ _ _ bx.nd rfl (Or.inr rfl) %[wX,%[%[2|0],%[%[3|0]|1]|1]|3] ∅ %[0|7]),%[(@uT _ _ _ _ _ _ QT %[oJ,%[5|0],(@mF _ _ _),(au _)|14] %[%[%[Q3,RG,RF,b8,%[4|0],%[%[5|0]|1],∅,∅,∅,∅,∅|33],∅|19],%[%[(["pair", "to", "source", "left", "many", "order", "loop", "used"]),(1),(2),_,bx.nd,rfl,(Or.inl rfl),(aC (aa cC) ["to", "source", "left", "many", "order", "loop", "used"] rfl rfl nofun),rfl,%[%[2|0]|18],(λ C s₀ H₀ ex pn=>%[(0),_,(show List.Nodup (["pair", "to", "source", "left", "many", "order", "loop", "used"]:List Str) from by decide +kernel),rfl,(Or.inl rfl),%[0|7]|15]),(λ C s₀ H₀ ex pn=>(@nO _ _ _ %[(cy hr.units),%[Vn,%[%[0|0],%[%[bY,%[6|0],%[0|2],(λ _ _=>rfl)|13]|1]|1]|3],%[0|2],(au _)|14])),(λ C s₀ H₀ ex pn=>%[0|0]),∅,(by intros;rfl),%[0|7]|44],%[(@gQ _ _ (5) _ _ _ _ bx.nd rfl (Or.inr rfl) %[wX,%[%[2|0],%[%[3|0]|1]|1]|3] ∅ %[0|7])|10]|9]|9]),%[%[%[si,%[len,ak,%[%[2|0]|1]|6],%[0|2],(au _)|14],%[%[%[%[(@mE _ _ _ _),%[%[wO,%[%[2|0],%[%[3|0]|1]|1]|3]|1]|1]|28]|12]|10],(@aq _)|17],%[(@gQ _ _ (6) _ _ _ _ bx.nd rfl (Or.inr rfl) %[(["axis", "way", "to", "source", "left", "many", "order", "loop", "used"]),(2),(aC (aa cC) ["to", "source", "left", "many", "order", "loop", "used"] rfl rfl nofun),rfl,%[%[4|0]|18],(λ C s₀ H₀ ex pn=>(%[(2),rfl,%[%[(0),_,(show List.Nodup (["axis", "way", "to", "source", "left", "many", "order", "loop", "used"]:List Str) from by decide +kernel),rfl,(Or.inl rfl),%[0|7]|15],%[%[(1),_,(show List.Nodup (["axis", "way", "to", "source", "left", "many", "order", "loop", "used"]:List Str) from by decide +kernel),rfl,(Or.inl rfl),%[0|7]|15],(@aL _),∅|16],∅|16],∅,∅|26].mono λ _ _ _ _ h=>b0 h)),(λ C s₀ H₀ ex pn=>(@aI _)),(λ C s₀ H₀ ex pn=>%[0|0]),(by intros;rfl)|22] ∅ %[0|7]),%[%[%[%[(@mE _ _ _ _),%[%[fi,%[4|0],%[(["axis", "to", "source", "left", "many", "order", "loop", "used"]),(1),(aC (aa cC) ["to", "source", "left", "many", "order", "loop", "used"] rfl rfl nofun),rfl,%[∅,T.z_range,%[%[3|0]|1],∅|35],(λ C s₀ H₀ ex pn=>%[(0),_,(show List.Nodup (["axis", "to", "source", "left", "many", "order", "loop", "used"]:List Str) from by decide +kernel),rfl,(Or.inl rfl),%[0|7]|15]),(λ C s₀ H₀ ex pn=>(@nO _ _ _ %[qy,%[0|0],%[7|0],(by with_unfolding_all rfl)|14])),(λ C s₀ H₀ ex pn=>%[%[%[0|0],%[%[0|2]|1]|1]|28]),(by intros;rfl)|22]|11]|1]|1]|28]|12]|10]|9]|9]|9]|9]|9]|9]|9],?_⟩;rw [show aw ["to", "source", "left", "many", "order", "loop", "used"] [.ref u,.ref v]=[some (.ref u),some (.ref v),none,none,none,none,none] from rfl];clear G_Be G_wX G_Vn G_wO d4;have h8:ms.length<=8:=by rw [←m1,QE];exact hA.1
  have n2:=aF f2 B λ b hb=>(hB.2 b hb).1;rw [m2] at n2;exists m1;exists m2;exists d3;exists kk;ac_rfl;rw [BU];refine⟨room,f1,f2,A,B,vu,vv,hA,hB,by rw [m1 (),m2 ()],by rw [m1 ()];omega,d3 (),λ l r ys zs H1 e1 fa fo c5 b3 cm=>?_⟩;rw [m1 ()] at c5;have b4:=Hu c5 cm;have fu:=gF (af f1 A) (af f2 B) (af f2 B).length;have a6:FF ms.length ((aQ (af f1 A) (af f2 B) (af f2 B).length).map (ur ms)):=PrV.len;have c6:((aQ (af f1 A) (af f2 B) (af f2 B).length).map (ur ms)).length<=60:=by rw [QE];omega
  generalize (aQ (af f1 A) (af f2 B) (af f2 B).length).map (ur ms)=Z at b4 a6 c6 kk;have fv:=e1.at hu;have fx:=e1.at hD;have hk:(ax.length:Int)=(ms.length:Int):=by omega
  exists a6;exists b4;clear fo c5 cm fu fa;ac_rfl;intro od H2 c7 e2 h2;have d5:=e1.trans e2;have d6:H od=none:=e1.free c7;have fy:r ≠ od:=λ z=>by rw [z,c7] at b3;cases b3
  have c8:=e2.at b3;have de:=λ (_:Unit)=>(b4 ()).imp λ _ _ t=>PrV.ext t e2;clear b3 b4 fv fx c7 e1 e2;ac_rfl;rw [vg];refine⟨Z,zs,ms.length,rfl,h8,c8,de (),c6,a6 (),λ x H3 e3 nx=>?_⟩;have d7:=d5.trans e3;have d8:=e3.at c8;have cS:=e3.at h2;have d9:=(de ()).imp λ _ _ t=>PrV.ext t e3;have ea:=LoI.init ms.length Z;clear c8 de h2 d5 e3;ac_rfl;refine yx (by repeat' first|exact Kp|exact mo_nI0|exact mo_nI|apply uX|apply mo_unN|exact yi|exact Pr|exact mo_rI0|exact mo_rI|exact mo_rIsN|exact uW|exact Fp|exact mo_qIx|exact Fq|exact mo_qLen|apply sS|apply mo_tB|apply mo_not|apply mo_and|apply mo_or|apply Kq|apply mo_un|apply mo_cons|apply yR|apply mo_cb) (λ m σ H'=>∃ (L:List PP) (os:List (Int × Int)) (lf:Addr) (zs us:List V) (x:V),σ=[some (.ref u),some (.ref v),some (.ref lf),some (.int (ms.length:Int)),some (.ref od),some x,none]/\m=L.length/\Ext H H'/\H' lf=some (.lst zs)/\Al (PrV H') L zs/\L.length<=60/\H' od=some (.lst us)/\Al (bD H') (os.map λ o=>[o.1,o.2]) us/\LoI ms.length Z L os/\lf ≠ od/\KJ ms.length L H' x) _ ⟨Z,[],_,zs,[],x,rfl,rfl,d7,d8,d9,c6,cS,⟨rfl,λ i z y h=>by cases h⟩,ea,fy,nx⟩ ?_;rintro m _ H4 ⟨L,os,lf,a9,us,x4,rfl,rfl,e4,dr,bt,eb,a3,a4,hI,f3,hN⟩;clear d8 d9 cS ea nx d7;have hs:us.length<=8:=by have:=hI.ord.len;rw [a4.1,QE];omega
  rcases hN with ⟨rfl,dy⟩|⟨a,w',q,rfl,hq,f5,hh⟩
  ·have ht:us.length=os.length:=by rw [a4.1,QE]
   exists hI;exists dy;exists bt;exists a4;have bS:a9.length=L.length:=(bt ()).1
   by_cases hLe:L=[]
   ·subst hLe;have f6:a9=[]:=RV bS;subst f6;have f7:=λ (_:Unit)=>(hI ()).done;have hok:=λ (_:Unit)=>(hI ()).ord.full;have hv:=λ (_:Unit)=>(hI ()).ord.1;have wk:=dE (K:=K) (R:=axP) (λ _ _ _ _ h e=>h.ext e) a3 (jH (a4 ()));clear hI dy bS;ac_rfl;refine bc os (λ _=>true) (λ o=>.int o.1) (λ z x H'=>axP z x H') wk.1 wk.2 (aj %[0|8]) ?_ ?_
    ·intro D z y H' N1 N0 hz hD e ⟨qq,hy,hC⟩ k1 _;subst hy;have aX:N1 (.int z.1) H':=k1 rfl H' (Ext.refl _);clear k1 kk wk hz;simp! only [↓dg,↓aO]
    ·intro D5 H5 f9 e5 h5;rw [jc] at h5;have b5:H5 D5=some (.lst ((os.map λ o=>o.1).map V.int)):=by rw [h5,Rq];rfl
     have a7:=e5.at a3;have aS:=(a4 ()).imp λ _ _ t=>bD.ext t e5;exists aS;clear h5 wk f9 a3 a4;ac_rfl;refine⟨by omega,by omega,?_⟩;rw [QO];refine dH (List.range ms.length) (λ j=>decide (¬ (j:Int)∈os.map λ o=>o.1)) (λ j x H'=>x=.int (0+(j:Nat))) (λ D j y H'=>∃ q,y=.ref q/\H' q=some (.tup [.int (j:Int),.int 1])) fM.1 fM.2 (λ D _ y H1 H2 ⟨q,h1,h3⟩ e=>⟨q,h1,e.at h3⟩) (λ D _ y H1 xs o ⟨q,h1,h3⟩ hD=>⟨q,h1,by rw [ah (λ z=>by rw [z,hD] at h3;cases h3)];exact h3⟩) (aj (by rw [Rb];omega)) ?_ ?_
     ·intro D j y H' N1 N0 hj hD e _ hy k1 k0;subst hy;have ec:=e.at b5;have b6:=Et (j:Int) (os.map λ o=>o.1);have hE:iD (.int (j:Int))=true:=rfl;have eg:(((os.map λ o=>o.1).map V.int).all iD)=true:=by rw [all_map];exact SV.mpr λ _ _=>rfl
      have aX:=k1;have a5:=k0
      by_cases hm:(j:Int)∈os.map λ o=>o.1
      ·rw [Q4 hm] at b6;have k2:=k0 (Ro (λ z=>z hm)) H' (Ext.refl _);clear k1 k0 aX a5 kk hj hm b5;generalize (os.map λ o=>o.1).map V.int=xs at ec b6 eg;rw [Rv];simp! only [↓aV,↓aO]
      ·rw [Ro hm] at b6;have k2:=k1 (Q4 hm);clear k1 k0 aX a5 kk hj hm b5;generalize (os.map λ o=>o.1).map V.int=xs at ec b6 eg;rw [Rv];simp! only [↓aV,↓aO];intro t1 H9 hF e9 h9;exact k2 _ H9 e9 ⟨t1,rfl,h9⟩
     intro D7 dz H7 gs e7 h7 b7
     have ei:jO ms.length os=((List.range ms.length).filter λ (j:Nat)=>decide (¬ (j:Int)∈os.map λ o=>o.1)).map λ (j:Nat)=>((j:Int),(1:Int)):=by
      unfold jO;rw [List.filter_map,map_map];rfl
     have cT:Al (bD H7) ((jO ms.length os).map λ o=>[o.1,o.2]) dz:=by
      rw [ei];refine⟨by rw [b7.1,QE,QE],λ i z y hz hy=>?_⟩;rw [Rq,QL] at hz;obtain⟨j,hj,rfl⟩:=QJ.mp hz;obtain⟨q,gx,gy⟩:=b7.2 i j y hj hy;exact⟨q,gx,gy⟩
     have gB:=e7.at a7
     have ej:us.length+dz.length<=5000:=by
      have:dz.length<=ms.length:=by rw [b7.1];have:=Tu (λ j:Nat=>decide (¬ (j:Int)∈os.map λ o=>o.1)) (List.range ms.length);rw [Rb] at this;exact this
      omega
     exists cT;clear ei b7 gs b5 a7;ac_rfl;refine⟨aj %[0|8],?_⟩;intro r8 H8 el e8 gS;have en:=e7.trans e8;have gW:=λ (_:Unit)=>uH ((aS ()).imp λ _ _ t=>bD.ext t en) ((cT ()).imp λ _ _ t=>bD.ext t e8);have g0:H r8=none:=(e4.trans (e5.trans e7)).free el;clear el ej gB h7;ac_rfl;intro x9 H9 hJ e9 h9;exact kk () x9 H9 (e4.trans (e5.trans (en.trans e9))) (λ w r hw=>by rw [h9] at hw;cases hw;exact g0) (.inl ⟨os++jO ms.length os,r8,h9,⟨_,e9.at gS,by rw [RA];exact(gW ()).imp λ _ _ t=>bD.ext t e9⟩,hok (),f7 ()⟩)
   ·have d0:(0:Int) < (a9.length:Int):=by
     have:L.length ≠ 0:=λ e=>hLe (RV e);omega
    have e0:(0:Int) < (L.length:Int):=by rw [←bS];exact d0
    clear bS;ac_rfl;rw [ui];refine⟨L,a9,ms.length,rfl,h8,dr,bt (),eb,λ z hz=>a6 () z ((hI ()).sub z hz),λ Y r5 g4 H5 e5 ep h5 a8 c0 et=>?_⟩;exists a8;exists c0;have g5:H r5=none:=e4.free ep;clear ep;ac_rfl;intro x6 H6 hK e6 h6;exact kk () x6 H6 (e4.trans (e5.trans e6)) (λ w r hw=>by rw [h6] at hw;cases hw;exact g5) (.inr ⟨L,Y,r5,g4,h6,e6.at h5,(a8 ()).imp λ _ _ t=>PrV.ext t e6,c0 (),dy (),hLe,et,(hI ()).sub⟩)
  ·obtain⟨ew,g6⟩:=hI.step hh f5;have g7:q ≠ od:=λ z=>by rw [z,a3] at hq;cases hq
   have hl:us.length < sizeLine:=eU %[0|8];have d1:(upd H4 od (.lst (us++[.ref q]))) q=some (.tup [.int (a:Int),.int w']):=by rw [ah g7];exact hq
   have b1:(upd H4 od (.lst (us++[.ref q]))) lf=some (.lst a9):=by rw [ah f3];exact dr
   have a7:(upd H4 od (.lst (us++[.ref q]))) od=some (.lst (us++[.ref q])):=ar;have a8:=bt.imp λ _ _ t=>PrV.upd (o:=.lst (us++[.ref q])) t a3
   have aS:Al (bD (upd H4 od (.lst (us++[.ref q])))) ((os++[((a:Int),w')]).map λ o=>[o.1,o.2]) (us++[.ref q]):=by
    rw [RA];exact nX (a4.imp λ _ _ t=>bD.upd t a3) (bD.upd ⟨q,rfl,hq⟩ a3)
   have e5:Ext H (upd H4 od (.lst (us++[.ref q]))):=e4.put d6;have b2:=λ (_:Unit)=>hI.sub;exists ew;clear hI hh bt a4;ac_rfl;generalize upd H4 od (.lst (us++[.ref q]))=H5 at d1 b1 a7 a8 aS e5 ⊢;have wk:=dE (K:=K) (R:=λ z x H'=>PrV H' z x) (λ _ _ _ _ h e=>PrV.ext h e) b1 a8;exists aS;clear hq dr a3 a8 e4;ac_rfl;refine dH L (λ z=>decide (cw z.1 z.2 a=0)) (λ z x H'=>PrV H' z x) (λ D z y H'=>PrV H' z y) wk.1 wk.2 (λ D _ y H1 H2 h e=>h.ext e) (λ D _ y H1 xs o h hD=>h.upd hD) (aj %[0|8]) ?_ ?_
   ·intro D z y H' N1 N0 hz hD e _ hy k1 k0;have g8:=hy;obtain⟨y',_,_,rfl,_⟩:=g8;have aX:=λ h=>k1 h (.ref y') H' (Ext.refl _) hy;have a5:=λ h=>k0 h H' (Ext.refl _);have bS:=a6 () z (b2 () z hz);have hL:=e.at d1;exists aX;exists a5;clear k1 k0 wk hz;simp! only [↓aV,↓aO];rw [nW];refine⟨z,hy,by omega,by omega,by omega,?_⟩;rw [QO];generalize cw z.1 z.2 a=g at aX a5
    by_cases hg:g=0
    ·have k2:=aX () (Q4 hg);clear aX a5;ac_rfl
    ·have k2:=a5 () (Ro hg);clear aX a5;ac_rfl
   intro D6 ey H6 d2 e6 h6 cf;have ez:=e6.at a7;have nD:D6 ≠ od:=λ z=>by rw [z,a7] at d2;cases d2
   have c2:=λ (_:Unit)=>(aS ()).imp λ _ _ t=>bD.ext t e6;have eB:=e5.trans e6;have eH:(L.filter λ z=>decide (cw z.1 z.2 a=0)).length<=60:=by omega
   have c4:=λ (_:Unit)=>(show FF ms.length (L.filter λ z=>decide (cw z.1 z.2 a=0)) from λ z hz=>a6 () z (b2 () z (RK.mp hz).1));exists cf;clear wk d2 b1 a7 aS b2 d1 e5;ac_rfl;rw [vg];refine⟨_,ey,ms.length,rfl,h8,h6,cf (),eH,c4 (),λ x7 H7 e7 eM=>?_⟩;have q1:=λ (_:Unit)=>e7.at h6;have q2:=λ (_:Unit)=>(cf ()).imp λ _ _ t=>PrV.ext t e7;have q3:=λ (_:Unit)=>e7.at ez;have q4:=λ (_:Unit)=>(c2 ()).imp λ _ _ t=>bD.ext t e7;have hc:=eB.trans e7;exists eM;clear c2 cf c4 a6 h6 ez e7 eB e6;ac_rfl;exact⟨_,g6,_,_,D6,ey,_,x7,rfl,rfl,hc,q1 (),q2 (),eH,q3 (),q4 (),ew (),nD,eM ()⟩
abbrev rh  (p:Addr) (q:Addr) (w1:Addr) (w2:Addr) (H:Hp) (Q:VK) (E:XK):Prop:=∃ (ms:List Int) (os:List (Int × Int)) (ws rs:List Int),H p=some (.lst (ms.map V.int))/\aP H q (os.map λ o=>[o.1,o.2])/\eS os ms.length/\H w1=some (.lst (ws.map V.int))/\H w2=some (.lst (rs.map V.int))/\SzK ms/\(ws.length:Int)=ae ms/\(rs.length:Int)=ae ms/\ws.Nodup/\∀ H',Ext H H'->Q (.bl (nK ms ws rs os)) H'
def sH  : Sp:=λ vs H Q E=>∃ (p:Addr) (q:Addr) (w1:Addr) (w2:Addr),vs=[.ref p,.ref q,.ref w1,.ref w2]/\(rh  p q w1 w2 H Q E)
def BS  (p:Addr) (q:Addr) (w1:Addr) (w2:Addr) (H:Hp) (Q:VK) (E:XK):sH  [.ref p,.ref q,.ref w1,.ref w2] H Q E=(rh  p q w1 w2 H Q E):=M3 (f:=λ (p:Addr) (q:Addr) (w1:Addr) (w2:Addr)=>[.ref p,.ref q,.ref w1,.ref w2]) (λ _ _ _ _ _ _ _ _ h=>by cases h;exact⟨rfl,rfl,rfl,rfl⟩) p q w1 w2
def pj(T:Tx K mg t):bj P w K mg base CX0 2 t.a_DY t.d_DY ["_law_sizes_here", "_law_order", "_law_writes", "_law_reads"] sH:=by
 have G_Ee:=%[rD|46];have G_Bi:=%[ml|46];refine T.F_DY.ok cE (λ _ _ _ _ h=>M4 h λ _ _ _ _=>rfl) (λ c A o s H vs Q E hr h=>?_)
 ·obtain⟨p,q,w1,w2,rfl,ms,os,ws,rs,hp,tq,hok,b4,c3,hsz,lw,lr,a9,k⟩:=h;refine⟨_,%[%[4,cE,(@iH _ _)|4],%[%[5,cE,(@iH _ _)|4],%[%[QT,rfl,%[∅,T.z_range,%[%[len,ak,%[%[2|0]|1]|6]|1],∅|35],%[6,cE|5],%[(@km _ _ _ _ _ _ _ _ _ (fN hr.units) %[5|0] %[bY,%[2|0],%[6|0],(λ _ _=>rfl)|13] %[bY,%[3|0],%[6|0],(λ _ _=>rfl)|13] rfl)|10],(by intros;rfl)|21],%[%[QT,rfl,%[%[Ee,%[%[0|0],%[%[1|0]|1]|1]|3]|18],%[7,cE|5],%[%[6,cE,%[Bi,%[%[0|0],%[%[7|0]|1]|1]|3]|4],%[(@km _ _ _ _ _ _ _ _ _ (fN hr.units) %[4|0] %[bY,%[2|0],%[6|0],(λ _ _=>rfl)|13] (@Dp _ _ _ _ _ _ _ _ _ (fN hr.units) %[4|0] %[bY,%[3|0],%[6|0],(λ _ _=>rfl)|13] %[bY,%[3|0],%[6|0],(λ _ _=>rfl)|13] ⟨by rfl,by rfl,by rfl,by rfl⟩) rfl)|10]|9],(by intros;rfl)|21],%[%[%[(Hy (fN hr.units)),%[4|0],%[5|0],(au _)|36]|12]|10]|9]|9]|9]|9],?_⟩;rw [show aw ["_law_sizes_here", "_law_order", "_law_writes", "_law_reads", "_law_held", "_law_due", "_law_n", "_law_place"] [.ref p,.ref q,.ref w1,.ref w2]=[some (.ref p),some (.ref q),some (.ref w1),some (.ref w2),none,none,none,none] from rfl];clear G_Ee G_Bi;have h8:=hsz.pos.2.1;have dz:=hsz.pos.2.2;have h6:=hsz.pos.1;have hs:∀ n∈ms,1<=n/\n<=1000000000:=λ n hn=>by have:=h6 n hn;omega
  have lo:=qw hok tq;have aS:=n9 hs lo.2.2;have b5:=uL hok.2.1;have p1:=aW ms λ m hm=>(hs m hm).1
  have b6:(aD ms os).length=ws.length:=by
   rw [qd hs λ o ho=>(lo.2.2 o ho).1,eY,b5];omega
  have aX:=EG hs lw lr a9 hok aS b6;have b7:∀ z∈aD ms os,ws[(dP ms z).toNat]? = some (ay ms ws z)/\rs[(dP ms z).toNat]? = some (ay ms rs z)/\0<=dP ms z:=λ z hz=>⟨aR hs lw (aS z hz),aR hs lr (aS z hz),(fj ms z hs (aS z hz)).1⟩;have a4:∀ x∈aD ms os,∀ y∈aD ms os,ay ms ws x=ay ms ws y->x=y:=λ x hx y hy e=>kW hs lw a9 (aS x hx) (aS y hy) e;have cf:=jh hok.toP (ms:=ms);exists k;exists aX;exists b7;exists a4;exists cf;exists aS;exists h6;exists hs;exists a9;exists b6;exists b5;clear hok hsz;ac_rfl;intro d1 H1 d0 e1 h1;ac_rfl;intro d2 H2 hd2 e2 h2;have c4:=e1.trans e2;have a5:=e2.at h1;have c5:H d2=none:=e1.free hd2;have a6:=c4.at b4;have c6:d1 ≠ d2:=λ e=>by rw [e,hd2] at h1;cases h1
  clear h1 e1 e2 hd2;ac_rfl;refine⟨by omega,by omega,?_⟩;refine hG (λ i σ H'=>∃ v6:Option V,σ=[some (.ref p),some (.ref q),some (.ref w1),some (.ref w2),some (.ref d1),some (.ref d2),v6,none]/\Ext H H'/\H' d1=some (.dK (lT []))/\H' d2=some (.dK (lT ((ws.zip rs).take i)))) ⟨none,rfl,c4,a5,h2⟩ ?_ ?_
  ·rintro i _ H3 hi ⟨v6,rfl,e3,bt,h3⟩;have d3:i < ws.length:=by have:i < (ae ms).toNat:=hi;omega
   obtain⟨c,hc⟩:∃ c,ws[i]? = some c:=⟨_,QB d3⟩;obtain⟨v,hv⟩:∃ c,rs[i]? = some c:=⟨_,QB %[0|8]⟩;have a1:atI (ws.map V.int) (0+(i:Int))=some (V.int c):=by rw [Rv];exact cH (by rw [QL,hc];rfl)
   have a2:atI (rs.map V.int) (0+(i:Int))=some (V.int v):=by rw [Rv];exact cH (by rw [QL,hv];rfl)
   have d4:=e3.at b4;have d5:=e3.at c3;have a3:bH ((ws.zip rs).take i) c=none:=zP (a9 ()) hc
   have htk:(ws.zip rs).take (i+1)=(ws.zip rs).take i++[(c,v)]:=by
    rw [RD,show (ws.zip rs)[i]? = some (c,v) from RB.mpr ⟨hc,hv⟩];rfl
   have cm:(lT ((ws.zip rs).take i)).length < sizeLine:=eU (by unfold lT;rw [length_map,length_take,length_zip];omega);exists a3;exists htk;clear hi hc hv k h2 a5 a6;simp! only [↓aA];refine pT (k:=.inl c) h3 cm ?_;rw [yG v (a3 ()),←htk ()];exact⟨_,rfl,e3.put c5,by rw [ah c6];exact bt,ar⟩
  ·rintro _ H3 ⟨v6,rfl,e3,bt,h3⟩;have b3:(ae ms).toNat=ws.length:=by omega
   rw [b3,Sa (by rw [Sy];omega)] at h3;clear h2 a5 a6 b3;ac_rfl;rw [EL];refine⟨ms,os,e3.at hp,⟨h8,hs ()⟩,lo.ext e3,by rw [b5 ()];omega,λ wk H4 e4 t4=>?_⟩;obtain⟨us,hu,al⟩:=t4;have d6:=e3.trans e4;have cS:=e4.at bt;have h4:=e4.at h3;clear e3 e4 h3 bt;ac_rfl;refine cG (xs:=us) (λ i σ H'=>∃ v6 v7:Option V,σ=[some (.ref p),some (.ref q),some (.ref w1),some (.ref w2),some (.ref d1),some (.ref d2),v6,v7]/\Ext H H'/\(∀ b o,b ≠ d1->H4 b=some o->H' b=some o)/\H' d1=some (.dK (lT (jE (ay ms ws) (ay ms rs) ((aD ms os).take i))))) ⟨_,none,rfl,d6,λ _ _ _ h=>h,cS⟩ (λ i σ H' _ ⟨_,_,_,_,kp,_⟩=>kp wk _ (λ e=>by rw [e,cS] at hu;cases hu) hu) ?_ ?_
   ·rintro i y _ H5 hi ⟨v6,v7,rfl,e5,kp,h5⟩;obtain⟨z,bS,w',rfl,b1⟩:=cu al hi;have cT:=QV bS;obtain⟨c1,c2,n0⟩:=b7 () z cT;have d7:w' ≠ d1:=λ e=>by rw [e,cS] at b1;cases b1
    have c7:H5 w'=some (.tup (z.map V.int)):=kp w' _ d7 b1;have c8:=e5.at hp;have a7:=e5.at b4;have a8:=e5.at c3
    have a1:atI (ws.map V.int) (dP ms z)=some (.int (ay ms ws z)):=by
     obtain⟨n,hn⟩:=QU n0;rw [hn] at c1 ⊢;exact cH (by rw [QL];rw [QO] at c1;rw [c1];rfl)
    have a2:atI (rs.map V.int) (dP ms z)=some (.int (ay ms rs z)):=by
     obtain⟨n,hn⟩:=QU n0;rw [hn] at c2 ⊢;exact cH (by rw [QL];rw [QO] at c2;rw [c2];rfl)
    have de:=aS () z cT
    have b2:jE (ay ms ws) (ay ms rs) ((aD ms os).take (i+1))=jE (ay ms ws) (ay ms rs) ((aD ms os).take i)++[(ay ms ws z,(bH (jE (ay ms ws) (ay ms rs) ((aD ms os).take i)) (ay ms rs z)).getD (ay ms rs z))]:=by
     rw [RD,bS];exact kK _ _ _ _
    have a3:bH (jE (ay ms ws) (ay ms rs) ((aD ms os).take i)) (ay ms ws z)=none:=Ac (a4 ()) (cf ()) bS
    have d8:(jE (ay ms ws) (ay ms rs) ((aD ms os).take i)).length<=60:=by
     have:=RS List.length (eX (ay ms ws) (ay ms rs) ((aD ms os).take i));rw [QE,QE,Rf] at this;have:=b6 ();omega
    generalize jE (ay ms ws) (ay ms rs) ((aD ms os).take i)=kv at h5 b2 a3 d8;have cm:(lT kv).length < sizeLine:=eU (by unfold lT;rw [length_map];omega);exists a3;exists b2;clear hi bS cT c1 c2 b1 hu cf b7 a4 aS k aX;simp! only [↓aA];rw [ET];refine⟨ms,z,c8,c7,h6 (),de,dz,λ H6 e6=>?_⟩;have g1:=e6.at a7;have g2:=e6.at a8;have g3:=e6.at h5;clear c8 c7 a7 a8 h5;ac_rfl;refine GO g3 ?_;ac_rfl;refine KL (k:=.inl (ay ms rs z)) g3 ?_;rw [su]
    have dr:((bH kv (ay ms rs z)).map V.int).getD (V.int (ay ms rs z))=V.int ((bH kv (ay ms rs z)).getD (ay ms rs z)):=by
     cases bH kv (ay ms rs z)<;>rfl
    rw [dr];generalize (bH kv (ay ms rs z)).getD (ay ms rs z)=vv at b2;clear dr;ac_rfl;refine pT (k:=.inl (ay ms ws z)) g3 cm ?_;rw [yG vv (a3 ()),←b2 ()];exact⟨_,_,rfl,(e5.trans e6).put d0,λ b o hb ho=>by rw [ah hb];exact e6.at (kp b o hb ho),ar⟩
   ·rintro _ H5 ⟨v6,v7,rfl,e5,kp,h5⟩;have dy:us.length=(aD ms os).length:=al.1;rw [dy,Rz] at h5;have c0:=kp d2 _ (QQ c6) h4;have k':=k () H5 e5;rw [←aX ()] at k';clear k aX kp dy al;ac_rfl;refine GP h5 c0 ?_;ac_rfl
def ma.both{L Y:List PP}{n:Nat}(h:ma L Y n)(aS:ki n L):∀ a:Nat,a < n->Cu Y a:=λ a ha=>by
 obtain⟨h1,h2⟩:=h.2 a ha
 rcases aS a ha with h0|⟨hn,hp⟩
 ·exact .inl λ y hy=>h0 y (h.1 y hy)
 ·exact .inr ⟨h2 hn,h1 hp⟩
def ma.some{L Y:List PP}{n:Nat}(h:ma L Y n)(hl:FF n L)(aS:¬ L=[])(hd:∀ z∈L,¬ z.1=z.2):¬ Y=[]:=λ e=>by
 obtain⟨z,hz⟩:∃ z,z∈L:=by
  cases L with
  | nil=>exact absurd rfl aS
  | cons a r=>exact⟨a,QP⟩
 refine hd z hz (T2 (by rw [(hl z hz).1,(hl z hz).2]) λ a ha hb=>?_);have aX:a < n:=by rw [←(hl z hz).1];exact ha
 have hg:cw z.1 z.2 a=z.1[a] - z.2[a]:=by
  unfold cw;rw [getD_eq_getElem?_getD,getD_eq_getElem?_getD,getElem?_eq_getElem ha,getElem?_eq_getElem hb];rfl
 obtain⟨h1,h2⟩:=h.2 a aX;apply Classical.byContradiction;intro a4
 rcases Int.lt_trichotomy (cw z.1 z.2 a) 0 with a3|heq|hgt
 ·obtain⟨y,hy,_⟩:=h2 ⟨z,hz,a3⟩;rw [e] at hy;cases hy
 ·omega
 ·obtain⟨y,hy,_⟩:=h1 ⟨z,hz,hgt⟩;rw [e] at hy;cases hy
def Ds{ms ws rs:List Int}(hs:∀ n∈ms,1<=n/\n<=1000000000)(hw:(ws.length:Int)=ae ms)(hr:(rs.length:Int)=ae ms)(aX:ws.Nodup):∀ z∈(aQ ws rs rs.length).map (ur ms),¬ z.1=z.2/\InR ms z.1/\InR ms z.2:=λ z hz=>by
 obtain⟨⟨i,j⟩,hp,rfl⟩:=QG.mp hz;obtain⟨hj,c,a3,a4,aS⟩:=(iP aX).mp hp;have a6:i < ws.length:=(QD.mp a4).1;refine⟨λ e=>?_,InR.split ms i hs,InR.split ms j hs⟩;have e':ao ms (i:Int)=ao ms (j:Int):=e;have:=qi (λ n hn=>(hs n hn).1) %[0|8] %[0|8] %[0|8] %[0|8] e';have a5:i=j:=by omega
 rw [a5] at aS;exact aS a3
def zC{n:Nat}{L:List PP}(hL:¬ L=[])(hn:ki n L):∀ os:List (Int × Int),(∀ o∈os,(0<=o.1/\o.1 < (n:Int))/\(o.2=1\/o.2=-1))->(∀ z∈L,crB os z.1 z.2=true)->False
 | [],_,h=>by
  cases L with
  | nil=>exact hL rfl
  | cons z r=>exact absurd (h z QP) (by show ¬ false=true;decide)
 | o::os,ho,h=>by
  obtain⟨a3,aX⟩:=ho o QP
  rcases hn o.1.toNat %[0|8] with hz|⟨⟨x,hx,gx⟩,y,hy,gy⟩
  ·exact zC hL hn os (λ p hp=>ho p (QM _ hp)) λ z aS=>by rw [←dX (hz z aS)];exact h z aS
  ·rcases aX with e|e
   ·have:=h x hx;rw [cX %[0|8],e] at this;have:=Rp this;omega
   ·have:=h y hy;rw [cX %[0|8],e] at this;have:=Rp this;omega
def MS{n:Nat}{L:List PP}{os:List (Int × Int)}(hL:¬ L=[])(hn:ki n L)(ho:eS os n)(h:∀ z∈L,crB os z.1 z.2=true):False:=zC hL hn os ho.toP.1 h
def Ag(W R:List Int->Int)(zs:List (List Int))(z:List Int)(vals:List Int):j9 W R (zs++[z]) vals=(j9 W R zs vals).set (W z).toNat ((j9 W R zs vals).getD (R z).toNat 0):=by
 unfold j9;rw [foldl_append];rfl
def CU{W R:List Int->Int}{vals:List Int}:∀ zs:List (List Int),(∀ x∈zs,∀ y∈zs,W x=W y->x=y)->zs.Nodup->(∀ z∈zs,(0<=W z/\W z < (vals.length:Int))/\0<=R z/\R z < (vals.length:Int))->(zs.Pairwise λ m n=>W m=R n->R m=W m)->(j9 W R zs vals).length=vals.length/\(∀ z∈zs,(j9 W R zs vals).getD (W z).toNat 0=vals.getD (R z).toNat 0)/\∀ c:Nat,(∀ z∈zs,¬ (W z).toNat=c)->(j9 W R zs vals).getD c 0=vals.getD c 0:=by
 refine fm ?_ ?_
 ·intro _ _ _ _;exact⟨rfl,(λ z h=>by cases h),λ _ _=>rfl⟩
 ·intro zs n ih aS a3 hb a4;have a5:n ∉ zs:=λ h=>(RL.mp a3).2.2 n h n (QF.mpr rfl) rfl;have aX:n∈zs++[n]:=Q8 _ (QF.mpr rfl);obtain⟨p1,_,p3⟩:=List.pairwise_append.mp a4;obtain⟨i1,i2,i3⟩:=ih (λ x hx y hy=>aS x (QZ _ hx) y (QZ _ hy)) (RL.mp a3).1 (λ z hz=>hb z (QZ _ hz)) p1;have a8:=hb n aX
  have a6:(j9 W R zs vals).getD (R n).toNat 0=vals.getD (R n).toNat 0:=by
   by_cases hex:∃ m∈zs,W m=R n
   ·obtain⟨m,hm,e⟩:=hex;have h1:=p3 m hm n (QF.mpr rfl) e;rw [←e,i2 m hm,h1]
   ·refine i3 _ λ z hz e=>hex ⟨z,hz,?_⟩;have:=(hb z (QZ _ hz)).1;omega
  rw [Ag,a6];refine⟨by rw [SG,i1],λ z hz=>?_,λ c hc=>?_⟩
  ·rw [du]
   rcases Q6.mp hz with hz'|hz'
   ·have a7:¬ (W n).toNat=(W z).toNat:=λ e=>by
     have a9:=(hb z hz).1;have:n=z:=aS n aX z hz %[0|8];exact a5 (by rw [this];exact hz')
    rw [Q5 λ e=>a7 e.1];exact i2 z hz'
   ·rw [QF.mp hz',Rc ⟨rfl,by rw [i1];omega⟩]
  ·rw [du,Q5 λ e=>hc n aX e.1];exact i3 c λ z hz=>hc z (QZ _ hz)
def uQ(vals ws:List Int)(n:Nat)(hv:vals.length=n)(hw:ws.length=n):∀ i:Nat,i<=n->uu vals (((List.range n).map λ (k:Nat)=>(k:Int)).take i) (ws.take i)=ws.take i++vals.drop i
 | 0,_=>rfl
 | i+1,hi=>by
  have ih:=uQ vals ws n hv hw i %[0|8];have hc:((List.range n).map λ (k:Nat)=>(k:Int))[i]? = some (i:Int):=by rw [QL,Ux %[0|8]];rfl
  have aS:ws[i]? = some ws[i]:=QB %[0|8];have hl:(ws.take i).length=i:=by rw [Rf];omega
  rw [qt hc aS,ih,QO,List.set_append,Q5 %[0|8],hl,Nat.sub_self,List.drop_eq_getElem_cons (show i < vals.length by omega),List.set_cons_zero,RD,aS,UP];rfl
def He{vals ws:List Int}(h:ws.length=vals.length):uu vals ((List.range vals.length).map λ (k:Nat)=>(k:Int)) ws=ws:=by
 have:=uQ vals ws vals.length rfl h vals.length (QK _);rw [Sa (by rw [QE,Rb];exact QK _),Sa %[0|8],SA (QK _),Tg] at this;exact this
def sZ(n:Nat)(h:1<=n):af 0 ([((n:Int),(1:Int))].map aB)=(List.range n).map λ (k:Nat)=>(k:Int):=by
 rw [ff 0 _ (λ a ha=>by rw [QF.mp ha];show (1:Int)<=n;omega)]
 show bw [0] ((n:Int),(1:Int))=_
 unfold bw;simp
abbrev zF(C:Addr)(p:Addr)(H:Hp)(Q:VK)(E:XK):Prop:=∃ n:Int,H p=some (.lst [.int n])/\1<=n/\n<=4096/\∀ (x:Addr) (H':Hp),Ext H H'->aE C H' x n 0 ([(n,1)].map aB)->Q (.ref x) H'
def FK(C:Addr):Sp:=λ vs H Q E=>∃ (p:Addr),vs=[.ref p,.non]/\(zF C p H Q E)
def JE(C:Addr)(p:Addr)(H:Hp)(Q:VK)(E:XK):FK C [.ref p,.non] H Q E=(zF C p H Q E):=lX (f:=λ (p:Addr)=>[.ref p,.non]) (λ _ _ h=>by cases h;exact rfl) p
def Dt(T:Tx K mg t):bj P w K mg base CX0 8 t.a_Vj t.d_Vj ["sizes", "room"] (FK t.a_Vm):=by
 have G_Eh:=%[fA|46];have G_Ei:=%[tI|46];have G_wM:=%[dn|46];refine T.F_Vj.ok zv (λ _ _ _ _ h=>lU h λ _=>rfl) (λ c A o s H vs Q E hr h=>?_)
 ·obtain⟨p,rfl,n,hp,n1,n2,k⟩:=h;refine⟨_,%[%[2,zv,(@oI _ _ _ _ _ _ _ _ %[Ld,%[1|0],(@mF _ _ _),(au _)|14] %[Eh,%[%[0|0]|1]|3] %[1|0])|4],%[%[%[T.mk_View,G_wM,(hr.mono ⋯),∅,T.m_Vm,T.b_wM,.nil,aZ,%[%[2|0],%[%[0|2],%[(@jr _ _ _ _ _ _ _ _ rfl ∅ T.z_list ∅ T.z_zip %[%[0|0],%[%[Ei,%[%[0|0]|1]|3]|1]|1] ∅ ∅ ∅ ∅)|1]|1]|1],⋯,∅,∅|45]|12]|10]|9],?_⟩;rw [show aw ["sizes", "room", "cells"] [.ref p,.non]=[some (.ref p),some (.non),none] from rfl];clear G_Eh G_Ei G_wM;have hsz:dS [n]:=⟨by simp,λ m hm=>by rw [QF.mp hm];omega⟩;have aS:H p=some (.lst (([n]:List Int).map V.int)):=hp;have a7:ae [n]=n:=by show n * 1=n;omega
  have a8:fO [n]=[1]:=rfl;have aX:fh [(n,(1:Int))]:=⟨by simp,λ a ha=>by rw [QF.mp ha];show 1<=n/\n<=1000000000;omega⟩
  have hv:p6 n 0 [(n,(1:Int))]:=by
   obtain⟨g1,g2⟩:=eW [(n,(1:Int))] λ a ha=>(aX.2 a ha).1;refine⟨aX,n1,by omega,?_,?_⟩
   ·rw [g1,cp];show 0<=0+(min 0 ((n - 1) * 1)+0);omega
   ·rw [g2,cq];show 0+(max 0 ((n - 1) * 1)+0) < n;omega
  exists k;clear hp;simp! only [↓iU,↓pR,↓pS,↓BQ,↓E6];intro q H1 a4 e1 h1;have a9:=e1.at aS;clear a4 aS;ac_rfl;rw [FG];intro D ts H2 hD e2 h2 a3;have t2:Al (bD H2) (axL [(n,(1:Int))]) ts:=yt (ms:=[n]) (ws:=[1]) a3;clear hD a3;ac_rfl;intro x dx H3 hx bt bS e3 h3 b1;rw [iS];refine⟨dx,[(n,1)],h3,aP.ext ⟨ts,h2,t2⟩ e3,hv,λ H4 D2 e4 b2 a5 a6=>?_⟩;have k':=k () x H4 (e1.trans (e2.trans (e4 H2 e3 hx))) ⟨dx,D2,a5,a6⟩;clear k;ac_rfl
abbrev nB(CS CV:Addr)(s:Addr)(v:Addr)(u:Addr)(q:Addr)(H:Hp)(Q:VK)(E:XK):Prop:=∃ (l:Addr) (vals ms:List Int) (os:List (Int × Int)) (f1 f2:Int) (A1 A2:List (Int × Int)),cU CS H s l vals/\aE CV H v vals.length f1 (A1.map aB)/\aE CV H u vals.length f2 (A2.map aB)/\eE ms.length H q os/\(os.map λ o=>o.1).Nodup/\(∀ m∈ms,1<=m/\m<=6)/\ms.length<=8/\ae (szO ms os)<=4096/\(A1.map λ a=>a.1)=ms/\(A2.map λ a=>a.1)=ms/\1<=vals.length/\vals.length<=4096/\(0<=f1+aJ A1/\f1+aG A1 < (vals.length:Int))/\(0<=f2+aJ A2/\f2+aG A2 < (vals.length:Int))/\∀ H',(∀ H0,Ext H0 H->H0 l=none->Ext H0 H')->(∀ b o,b ≠ l->H b=some o->H' b=some o)->H' l=some (.lst ((j9 (bP f1 A1) (bP f2 A2) (aD ms os) vals).map V.int))->Q .non H'
def oA(CS CV:Addr):Sp:=λ vs H Q E=>∃ (s:Addr) (v:Addr) (u:Addr) (q:Addr),vs=[.ref s,.ref v,.ref u,.ref q]/\(nB CS CV s v u q H Q E)
def xk(CS CV:Addr)(s:Addr)(v:Addr)(u:Addr)(q:Addr)(H:Hp)(Q:VK)(E:XK):oA CS CV [.ref s,.ref v,.ref u,.ref q] H Q E=(nB CS CV s v u q H Q E):=M3 (f:=λ (s:Addr) (v:Addr) (u:Addr) (q:Addr)=>[.ref s,.ref v,.ref u,.ref q]) (λ _ _ _ _ _ _ _ _ h=>by cases h;exact⟨rfl,rfl,rfl,rfl⟩) s v u q
def Av(T:Tx K mg t):bj P w K mg base CX0 9 t.a_Vg t.d_Vg ["store", "to", "source", "order"] (oA t.a_Vl t.a_Vm):=by
 have G_tY:=%[bo|46];have G_qD:=%[cQ|46];have G_t5:=%[dO|46];have G_Bk:=%[bQ|46];have G_Jd:=%[wj|46];have G_D8:=%[rG|46];have G_Ea:=%[jK|46];have G_Vj:=%[Dt|46];refine T.F_Vg.ok oV (λ _ _ _ _ h=>M4 h λ _ _ _ _=>rfl) (λ c A o s' H vs Q E hr h=>?_)
 ·obtain⟨s,v,u,q,rfl,l,vals,ms,os,f1,f2,A1,A2,so,vv,vu,lo,c4,h6,h8,d8,m1,m2,fa,c5,b2,b3,k⟩:=h;obtain⟨ds,hs⟩:=so.ob;have c6:=so.fl;obtain⟨dx,D,hv,_⟩:=vv.ob;obtain⟨dy,D2,hu,_⟩:=vu.ob;have d9:=hv;have ea:=hs;have c1:=T.cl_Store;have c2:=T.cl_View;have n1:=bJ l (m := "refuse_room") nofun;have n2:=bJ l (m := "all_values") nofun;have n3:=bJ l (m := "put") nofun;have g1:=vn (vals.length:Int) f1 D (m := "sizes") nofun;have g2:=vn (vals.length:Int) f1 D (m := "cell") nofun;have g3:=vn (vals.length:Int) f2 D2 (m := "cell") nofun;refine⟨_,%[%[%[%[0|0],T.cl_Store,T.mt_Store_refuse_room,G_tY,(hr.mono ⋯),T.b_tY,.nil,aZ,%[%[1|0]|1],∅,∅,∅|37],∅|19],%[%[%[%[0|0],T.cl_Store,T.mt_Store_refuse_room,G_tY,(hr.mono ⋯),T.b_tY,.nil,aZ,%[%[2|0]|1],∅,∅,∅|37],∅|19],%[%[%[qD,%[%[1|0],%[%[2|0]|1]|1]|3],∅|19],%[%[4,oV,%[%[0|0],T.cl_Store,T.mt_Store_all_values,G_t5,(hr.mono ⋯),T.b_t5,.nil,aZ,∅|23]|4],%[%[QT,rfl,%[%[Jd,%[%[%[1|0],T.cl_View,T.mt_View_sizes,G_Bk,(hr.mono ⋯),T.b_Bk,.nil,aZ,∅|23],%[%[3|0]|1]|1]|3]|18],%[5,oV|5],%[(@pU _ _ _ _ _ _ %[bY,%[4|0],%[%[2|0],T.cl_View,T.mt_View_cell,G_D8,(hr.mono ⋯),T.b_D8,.nil,aZ,%[%[5|0]|1],∅,∅,∅|37],(λ _ _=>rfl)|13] (@uB _ _ _ _ _ _ _ %[4|0] %[%[1|0],T.cl_View,T.mt_View_cell,G_D8,(hr.mono ⋯),T.b_D8,.nil,aZ,%[%[5|0]|1],∅,∅,∅|37] jU (by intros;rfl)) ∅ ∅ ∅)|10],(by intros;rfl)|21],%[%[%[%[0|0],T.cl_Store,T.mt_Store_put,G_Ea,(hr.mono ⋯),T.b_Ea,.nil,aZ,%[(@yO _ _ _ _ _ _ _ _ _ _ _ _ _ _ _ _ G_Vj (hr.mono ⋯) ∅ T.m_Vj T.F_Vj.kp T.b_whole_1 (.cons (show bF V.non Value.none from rfl) .nil) aZ %[%[%[%[len,ak,%[%[4|0]|1]|6]|1]|20]|1] ⋯ ∅ ∅),%[%[4|0]|1]|1],∅,∅,∅|37],∅|19]|10]|9]|9]|9]|9]|9],?_⟩;rw [show aw ["store", "to", "source", "order", "values", "place"] [.ref s,.ref v,.ref u,.ref q]=[some (.ref s),some (.ref v),some (.ref u),some (.ref q),none,none] from rfl];clear G_tY G_qD G_t5 G_Bk G_Jd G_D8 G_Ea G_Vj;have a6:∀ n∈ms,1<=n/\n<=1000000000:=λ n hn=>by have:=h6 n hn;omega
  have k1:((A1.map aB).map λ a=>a.1)=ms:=by rw [cA];exact m1
  have k2:((A2.map aB).map λ a=>a.1)=ms:=by rw [cA];exact m2
  have c7:fh A1:=⟨by rw [←QE (f:=λ a:Int × Int=>a.1),m1];exact h8,λ a ha=>a6 a.1 (by rw [←m1];exact QG.mpr ⟨a,ha,rfl⟩)⟩;have c8:fh A2:=⟨by rw [←QE (f:=λ a:Int × Int=>a.1),m2];exact h8,λ a ha=>a6 a.1 (by rw [←m2];exact QG.mpr ⟨a,ha,rfl⟩)⟩;have b4:=dG c7;have eb:=dG c8;have a7:=n9 a6 lo.2.2;have b5:=yz ms a6 os λ o ho=>(lo.2.2 o ho).1
  have b6:∀ z∈aD ms os,(bP f1 (A1.map aB) z=bP f1 A1 z/\bP f2 (A2.map aB) z=bP f2 A2 z)/\(0<=bP f1 A1 z/\bP f1 A1 z < (vals.length:Int))/\(0<=bP f2 A2 z/\bP f2 A2 z < (vals.length:Int)):=λ z hz=>by
   have i1:=a7 z hz;have i2:=a7 z hz;rw [←m1] at i1;rw [←m2] at i2;refine⟨⟨?_,?_⟩,m5 b2.1 b2.2 i1,m5 b3.1 b3.2 i2⟩
   ·unfold bP;rw [oO A1 z i1]
   ·unfold bP;rw [oO A2 z i2]
  exists a7;exists b5;exists b6;exists k;exists k1;exists k2;exists c4;clear m1 m2 c7 c8 b2 b3 h6;ac_rfl;rw [gz];refine⟨l,vals,_,f1,_,so,vv,rfl,?_⟩;ac_rfl;rw [gz];refine⟨l,vals,_,f2,_,so,vu,rfl,?_⟩;ac_rfl;rw [nc];refine⟨_,_,f1,f2,_,_,vv,vu,b4.1,by rw [k1 (),k2 ()],λ H1 e1=>?_⟩;have ec:=e1.at hs;clear hs;ac_rfl;rw [oU];refine⟨l,vals,so.ext e1,c5,λ r H2 eg e2 h2=>?_⟩;have b7:=e1.trans e2;have de:=b7.at hv;clear ec hv;ac_rfl;rw [cB];refine⟨_,f1,_,vv.ext b7,b4.1,λ z3 H3 ei e3 h3=>?_⟩;rw [k1 ()] at h3;have dr:=b7.trans e3;clear ei de;ac_rfl;rw [xi];refine⟨ms,os,h3,⟨h8,a6⟩,lo.ext dr,c4 (),d8,λ wk H4 cf e4 t4=>?_⟩;rw [b5 ()] at t4;have ej:=dr.trans e4;have a5:=(e3.trans e4).at h2;have el:wk ≠ r:=λ e=>by rw [e,e3.at h2] at cf;cases cf
  have cm:H r=none:=e1.free eg;have en:l ≠ r:=λ e=>by rw [e] at c6;rw [c6] at cm;cases cm
  obtain⟨us,cS,al⟩:=t4;clear h3 cf e3 e4 b5 e2;ac_rfl;refine cG (xs:=us) (λ i σ H'=>∃ v5:Option V,σ=[some (.ref s),some (.ref v),some (.ref u),some (.ref q),some (.ref r),v5]/\Ext H H'/\(∀ b o,b ≠ r->H4 b=some o->H' b=some o)/\H' r=some (.lst ((j9 (bP f1 A1) (bP f2 A2) ((aD ms os).take i) vals).map V.int))) ⟨none,rfl,ej,λ _ _ _ h=>h,a5⟩ (λ i σ H' _ ⟨_,_,_,kp,_⟩=>kp wk _ el cS) ?_ ?_
  ·rintro i y _ H5 hi ⟨v5,rfl,e5,kp,h5⟩;obtain⟨z,cT,w',rfl,a9⟩:=cu al hi;have c0:=QV cT;obtain⟨⟨dz,d0⟩,⟨ep,et⟩,⟨ew,ey⟩⟩:=b6 () z c0;have bt:=a7 () z c0;have d1:w' ≠ r:=λ e=>by rw [e,a5] at a9;cases a9
   have c3:=kp w' _ d1 a9;have a8:=Af (W:=bP f1 A1) (R:=bP f2 A2) (vals:=vals) cT;have aS:=oH (bP f1 A1) (bP f2 A2) ((aD ms os).take i) vals;generalize j9 (bP f1 A1) (bP f2 A2) ((aD ms os).take i) vals=d2 at h5 a8 aS;have a3:=dj (vals:=d2) ew (by rw [aS];exact ey);have a4:ixN d2.length (bP f1 A1 z)=some (bP f1 A1 z).toNat:=Cn ep (by rw [aS];exact et);have ez:=e5.at hu;have d3:=e5.at d9;exists a8;exists aS;exists dz;exists d0;clear hi cT c0 a9 cS a5 b6 a7 k al;simp! only [↓aA];rw [vh];refine⟨_,f2,_,z,vu.ext e5,eb,c3,by rw [k2 ()];exact bt,λ H6 e6=>?_⟩;rw [show f2+eQ z ((A2.map aB).map λ a=>a.2)=bP f2 A2 z from d0 ()];have eB:=e6.at d3;have bS:=e6.at h5;have d4:=e6.at c3;clear ez d3 c3;ac_rfl;rw [vh];refine⟨_,f1,_,z,vv.ext (e5.trans e6),b4,d4,by rw [k1 ()];exact bt,λ H7 e7=>?_⟩;rw [show f1+eQ z ((A1.map aB).map λ a=>a.2)=bP f1 A1 z from dz ()];have b1:=e7.at bS;have aX:=e6.trans e7;clear eB bS d4;ac_rfl;refine⟨_,rfl,(e5.trans aX).put cm,λ b o hb ho=>by rw [ah hb];exact aX.at (kp b o hb ho),?_⟩;rw [a8 (),←oM]
  ·rintro _ H5 ⟨v5,rfl,e5,kp,h5⟩;have d5:us.length=(aD ms os).length:=al.1;rw [d5,Rz] at h5;have aS:=oH (bP f1 A1) (bP f2 A2) (aD ms os) vals;generalize j9 (bP f1 A1) (bP f2 A2) (aD ms os) vals=ws at h5 aS k;have eH:=e5.at ea;have eM:=so.ext e5;have e0:(ws.length:Int)<=4096:=by omega
   have e8:1<=(ws.length:Int):=by omega
   exists aS;clear cS a5 al d5;ac_rfl;intro z6 H6 e9 e6 d6;clear e9;ac_rfl;rw [JE];refine⟨_,d6,e8,e0,λ x H7 e7 vx=>?_⟩;have aX:=e6.trans e7;have b1:=aX.at h5;have fo:=aX.at eH;clear d6;ac_rfl;rw [zw];have wc:=sZ ws.length %[0|8];refine⟨l,vals,_,0,_,ws,eM.ext aX,vx,dG ⟨by simp,λ a ha=>by rw [QF.mp ha];show 1<=(ws.length:Int)/\(ws.length:Int)<=1000000000;omega⟩,by rw [aS ()],c5,?_,?_,b1,QQ en,?_,λ H8 q1 q2 q3=>?_⟩
   ·rw [cA];show (ws.length:Int) * 1<=4096;omega
   ·intro c hc;rw [wc] at hc;obtain⟨i,hi,rfl⟩:=QG.mp hc;have:=Rj.mp hi;have:=aS ();omega
   ·rw [cA];show (ws.length:Int)=(ws.length:Int) * 1;omega
   ·rw [wc,aS (),He (aS ())] at q3;have d7:=e5.trans aX;have k':=k () H8 (λ H0 x0 x1=>q1 H0 (x0.trans d7) x1) (λ b o hb ho=>q2 b o hb (d7.at ho)) q3;clear k;ac_rfl
def Dd{vals:List Int}:∀ ps:List (Int × Int),(∀ x∈ps,∀ y∈ps,x.1=y.1->x=y)->ps.Nodup->(∀ p∈ps,0<=p.1/\p.1 < (vals.length:Int))->(ps.foldl (λ vs p=>vs.set p.1.toNat p.2) vals).length=vals.length/\(∀ p∈ps,(ps.foldl (λ vs p=>vs.set p.1.toNat p.2) vals).getD p.1.toNat 0=p.2)/\∀ c:Nat,(∀ p∈ps,¬ p.1.toNat=c)->(ps.foldl (λ vs p=>vs.set p.1.toNat p.2) vals).getD c 0=vals.getD c 0:=by
 refine fm ?_ ?_
 ·intro _ _ _;exact⟨rfl,(λ z h=>by cases h),λ _ _=>rfl⟩
 ·intro ps n ih aS a3 hb;have a4:n ∉ ps:=λ h=>(RL.mp a3).2.2 n h n (QF.mpr rfl) rfl;have aX:n∈ps++[n]:=Q8 _ (QF.mpr rfl);obtain⟨i1,i2,i3⟩:=ih (λ x hx y hy=>aS x (QZ _ hx) y (QZ _ hy)) (RL.mp a3).1 (λ z hz=>hb z (QZ _ hz));have a6:=hb n aX;rw [Sr]
  show ((ps.foldl (λ vs p=>vs.set p.1.toNat p.2) vals).set n.1.toNat n.2).length=_/\(∀ p∈ps++[n],((ps.foldl (λ vs p=>vs.set p.1.toNat p.2) vals).set n.1.toNat n.2).getD p.1.toNat 0=p.2)/\∀ c:Nat,(∀ p∈ps++[n],¬ p.1.toNat=c)->((ps.foldl (λ vs p=>vs.set p.1.toNat p.2) vals).set n.1.toNat n.2).getD c 0=vals.getD c 0
  refine⟨by rw [SG,i1],λ z hz=>?_,λ c hc=>?_⟩
  ·rw [du]
   rcases Q6.mp hz with hz'|hz'
   ·have a5:¬ n.1.toNat=z.1.toNat:=λ e=>by
     have a7:=hb z hz;have:n=z:=aS n aX z hz %[0|8];exact a4 (by rw [this];exact hz')
    rw [Q5 λ e=>a5 e.1];exact i2 z hz'
   ·rw [QF.mp hz',Rc ⟨rfl,by rw [i1];omega⟩]
  ·rw [du,Q5 λ e=>hc n aX e.1];exact i3 c λ z hz=>hc z (QZ _ hz)
def pI{a b:List Int}(hl:a.length=b.length)(h:∀ c:Nat,c < a.length->a.getD c 0=b.getD c 0):a=b:=by
 refine T2 hl λ i h1 h2=>?_;have:=h i h1;rw [Rh,Rh,QB h1,QB h2] at this;exact this
def zr{f:Int}{A:List (Int × Int)}{ms z:List Int}(hs:∀ n∈ms,1<=n/\n<=1000000000)(hm:(A.map λ a=>a.1)=ms)(hz:InR ms z):bP f A z=ay ms (af f A) z:=by
 have one:∀ a∈A,(1:Int)<=a.1:=λ a ha=>(hs a.1 (by rw [←hm];exact QG.mpr ⟨a,ha,rfl⟩)).1;have hl:=aF f A one;rw [hm] at hl;have hg:=aR hs hl hz;have hn:=fj ms z hs hz;have:=jv one hg;rw [this,hm,RC hn.1,dM ms z hs hz];rfl
def A9{ms vals:List Int}{os:List (Int × Int)}{f1 f2:Int}{A B:List (Int × Int)}(hs:∀ n∈ms,1<=n/\n<=1000000000)(m1:(A.map λ a=>a.1)=ms)(m2:(B.map λ a=>a.1)=ms)(aX:(af f1 A).Nodup)(ho:eS os ms.length)(aS:∀ z∈aD ms os,InR ms z)(h1:fk (af f1 A) vals.length)(h2:fk (af f2 B) vals.length)(hk:nK ms (af f1 A) (af f2 B) os=true):j9 (bP f1 A) (bP f2 B) (aD ms os) vals=uu vals (af f1 A) (iB vals (af f2 B)):=by
 have l1:=aF f1 A λ a ha=>(hs a.1 (by rw [←m1];exact QG.mpr ⟨a,ha,rfl⟩)).1;have l2:=aF f2 B λ a ha=>(hs a.1 (by rw [←m2];exact QG.mpr ⟨a,ha,rfl⟩)).1;rw [m1] at l1;rw [m2] at l2;rw [qm _ _ λ z hz=>⟨zr hs m1 (aS z hz),zr hs m2 (aS z hz)⟩];generalize af f1 A=ws at *;generalize af f2 B=rs at *;have hP:=ho.toP;have a3:∀ x∈aD ms os,∀ y∈aD ms os,ay ms ws x=ay ms ws y->x=y:=λ x hx y hy e=>kW hs l1 aX (aS x hx) (aS y hy) e;have a4:=jh hP (ms:=ms);have a8:=(yD (ay ms ws) (ay ms rs) _ a3 a4).mp ((uZ hs l1 l2 aX ho aS).mpr hk);have gW:∀ z∈aD ms os,ws[(dP ms z).toNat]? = some (ay ms ws z)/\rs[(dP ms z).toNat]? = some (ay ms rs z):=λ z hz=>⟨aR hs l1 (aS z hz),aR hs l2 (aS z hz)⟩;obtain⟨r1,r2,r3⟩:=CU (vals:=vals) _ a3 a4 (λ z hz=>⟨h1 _ (QV (gW z hz).1),h2 _ (QV (gW z hz).2)⟩) a8
 have hz:(ws.zip (iB vals rs)).map (λ p=>p.1)=ws:=by
  rw [show (λ p:Int × Int=>p.1)=Prod.fst from rfl,List.map_fst_zip (by unfold iB;rw [length_map];omega)]
 have a9:(ws.zip (iB vals rs)).Nodup:=by
  have a5:=aX;rw [←hz] at a5;exact(SS.mp a5).imp λ h e=>h (by rw [e])
 have bt:∀ x∈ws.zip (iB vals rs),∀ y∈ws.zip (iB vals rs),x.1=y.1->x=y:=λ x hx y hy e=>by
  obtain⟨i,hi⟩:=SJ.mp hx;obtain⟨j,hj⟩:=SJ.mp hy;have a:=(RB.mp hi).1;have b:=(RB.mp hj).1;rw [e] at a;obtain⟨a1,a2⟩:=QD.mp a;obtain⟨b1,b2⟩:=QD.mp b;have bS:=(Tz aX).mp (a2.trans b2.symm);rw [bS,hj] at hi;exact(Q2 hi).symm
 obtain⟨p1,p2,p3⟩:=Dd (vals:=vals) _ bt a9 (λ p hp=>h1 p.1 (SF (show (p.1,p.2)∈_ from hp)).1)
 have a6:∀ z∈aD ms os,(ay ms ws z,vals.getD (ay ms rs z).toNat 0)∈ws.zip (iB vals rs):=λ z hz=>by
  refine mem_of_getElem? (i:=(dP ms z).toNat) (List.getElem?_zip_eq_some.mpr ⟨(gW z hz).1,?_⟩);unfold iB;rw [getElem?_map,(gW z hz).2];rfl
 refine pI (by rw [r1];exact p1.symm) λ c hc=>?_
 by_cases hex:∃ z∈aD ms os,(ay ms ws z).toNat=c
 ·obtain⟨z,hz,rfl⟩:=hex;rw [r2 z hz];exact(p2 _ (a6 z hz)).symm
 ·rw [r3 c λ z hz e=>hex ⟨z,hz,e⟩];refine(p3 c λ p hp e=>?_).symm;obtain⟨i,hi⟩:=SJ.mp hp;have a7:=(RB.mp hi).1;have b3:=(QD.mp a7).1;have zi:InR ms (ao ms (i:Int)):=InR.split ms i hs;refine hex ⟨ao ms (i:Int),nZ zi ho,?_⟩;have:=aR hs l1 zi;rw [eZ ms i λ n hn=>(hs n hn).1,Sw %[0|8] %[0|8],QO,a7] at this;rw [←Q2 this];exact e
def Hd(m:Nat):rY (m:Int)=((List.range m).map λ (i:Nat)=>(i:Int)).map V.int:=by
 unfold rY;rw [Int.toNat_natCast,map_map];rfl
def vX{ms:List Int}{n:Nat}(hp:ms.Perm ((List.range n).map λ (i:Nat)=>(i:Int)))(hs:ms.Pairwise (·<=·)):ms=(List.range n).map λ (i:Nat)=>(i:Int):=by
 refine List.Perm.eq_of_pairwise (le:=(·<=·)) (λ a b _ _ h1 h2=>Int.le_antisymm h1 h2) hs ?_ hp;rw [SS];exact List.pairwise_lt_range.imp λ h=>by omega
abbrev zJ  (q:Addr) (n:Int) (H:Hp) (Q:VK) (E:XK):Prop:=∃ (m:Nat) (os:List (Int × Int)),n=(m:Int)/\m<=8/\aP H q (os.map λ o=>[o.1,o.2])/\eS os m/\∀ H',Ext H H'->Q (.bl true) H'
def FQ  : Sp:=λ vs H Q E=>∃ (q:Addr) (n:Int),vs=[.ref q,.int n]/\(zJ  q n H Q E)
def zy  (q:Addr) (n:Int) (H:Hp) (Q:VK) (E:XK):FQ  [.ref q,.int n] H Q E=(zJ  q n H Q E):=gN (f:=λ (q:Addr) (n:Int)=>[.ref q,.int n]) (λ _ _ _ _ h=>by cases h;exact⟨rfl,rfl⟩) q n
def fR(T:Tx K mg t):bj P w K mg base CX0 2 t.a_wQ t.d_wQ ["_law_order", "_law_axes"] FQ:=by
 have G_Bs:=%[o9|46];refine T.F_wQ.ok gu (λ _ _ _ _ h=>gO h λ _ _=>rfl) (λ c A o s H vs Q E hr h=>?_)
 ·obtain⟨q,_,rfl,m,os,rfl,m8,⟨us,hu,al⟩,hok,kk⟩:=h;refine⟨_,%[%[(PW.pt %[%[%[%[isinstance,bb,%[%[0|0],%[%[(.ty "list"),(.type "list"),_,∅,T.z_list,nofun,rfl,⋯,⋯|32]|1]|1]|6],(by intros;rfl)|25]|24],%[%[(c9 hr.units),%[len,ak,%[%[0|0]|1]|6],%[1|0],(au _)|14]|34]|29]),%[%[(@fW _ _ _ _)|12]|10],(@aq _)|17],%[%[QT,rfl,%[%[0|0]|18],%[2,gu|5],%[%[(PW.pt %[%[%[%[isinstance,bb,%[%[2|0],%[%[(.ty "tuple"),(.type "tuple"),_,∅,T.z_tuple,nofun,rfl,⋯,⋯|32]|1]|1]|6],(by intros;rfl)|25]|24],%[%[(c9 hr.units),%[len,ak,%[%[2|0]|1]|6],%[0|2],(au _)|14],%[%[%[%[Bs,%[%[bY,%[2|0],%[0|2],(λ _ _=>rfl)|13]|1]|3],(by intros;rfl)|25]|24],%[%[qy,%[bY,%[2|0],%[0|2],(λ _ _=>rfl)|13],%[%[%[0|2],%[%[fZ,%[0|2]|43]|1]|1]|28],(by with_unfolding_all rfl)|14]|34]|29]|29]|29]),%[%[(@fW _ _ _ _)|12]|10],(@aq _)|17],%[%[%[%[%[Bs,%[%[bY,%[2|0],%[0|2],(λ _ _=>rfl)|13]|1]|3],(by intros;rfl)|25]|24],%[%[(@fW _ _ _ _)|12]|10],(@aq _)|17]|10]|9],(by intros;rfl)|21],%[%[%[(cy hr.units),%[sorted,w6,%[%[(["_law_row", "_law_order", "_law_axes", "!_law_row"]),(1),(aC (aa cK) ["_law_order", "_law_axes", "_law_row"] rfl rfl nofun),rfl,%[%[0|0]|18],(λ C s₀ H₀ ex pn=>%[(0),_,(show List.Nodup (["_law_row", "_law_order", "_law_axes", "!_law_row"]:List Str) from by decide +kernel),rfl,(Or.inl rfl),%[0|7]|15]),(λ C s₀ H₀ ex pn=>(@aI _)),(λ C s₀ H₀ ex pn=>%[bY,%[0|0],%[0|2],(λ _ _=>rfl)|13]),(by intros;rfl)|22]|1]|6],(@gm _ _ _ _ _ _ _ rfl ∅ T.z_list ∅ T.z_range %[%[1|0]|1] ∅ ∅ ∅),(au _)|36]|12]|10]|9]|9],?_⟩;rw [show aw ["_law_order", "_law_axes", "_law_row"] [.ref q,.int (m:Int)]=[some (.ref q),some (.int (m:Int)),none] from rfl];clear G_Bs;have b1:(us.length:Int)=(m:Int):=by rw [al.1,QE,hok.1]
  have b2:=hok.1;exists hok;exists kk;ac_rfl;refine cG (xs:=us) (λ i σ H'=>∃ v2:Option V,σ=[some (.ref q),some (.int (m:Int)),v2]/\Ext H H') ⟨none,rfl,Ext.refl _⟩ (λ i σ H' _ ⟨_,_,e⟩=>e.at hu) ?_ ?_
  ·rintro i y _ H2 hi ⟨v2,rfl,e2⟩;obtain⟨z,aS,w',rfl,hw⟩:=cu al hi;rw [QL] at aS;obtain⟨o,ho,rfl⟩:=QJ.mp aS;have hb:=(hok ()).2.2 o (QV ho);have aX:H2 w'=some (.tup [.int o.1,.int o.2]):=e2.at hw
   have b3:inV (.int o.2) [.int 1,.int (-1)]=true:=by rcases hb with e|e<;>rw [e]<;>rfl
   clear hi aS ho hb kk hw al;simp! only [↓aA,↓bq];intro z3 H3 a6 e3 h3;have b4:=e3.at aX;clear a6 aX;simp! only [↓bq];exact⟨rfl,rfl,_,rfl,e2.trans e3⟩
  ·rintro _ H2 ⟨v2,rfl,e2⟩;have a3:=e2.at hu;have a4:=al.imp λ _ _ z=>bD.ext z e2;have wk:=dE (K:=K) (R:=λ z x H'=>bD H' z x) (λ _ _ _ _ h e=>bD.ext h e) a3 a4;clear al a4 hu;ac_rfl;refine bc (os.map λ o=>[o.1,o.2]) (λ _=>true) (λ z=>.int (z.getD 0 0)) (λ z x H'=>bD H' z x) wk.1 wk.2 (aj (by rw [QE];omega)) ?_ ?_
   ·intro D z y H' N1 N0 hz hD e hy k1 _;obtain⟨w',rfl,hw⟩:=hy;obtain⟨o,ho,rfl⟩:=QG.mp hz;have b5:N1 (.int o.1) H':=k1 rfl H' (Ext.refl _);clear k1 kk hz wk;simp! only [↓aV,↓aO]
   ·intro D2 H3 a7 e3 h3;rw [jc,Rq] at h3;have a5:H3 D2=some (.lst ((os.map λ o=>o.1).map V.int)):=by rw [h3,Rq];rfl
    clear h3 wk a7 a3;ac_rfl;refine CF a5 (by rw [QE];omega) λ ms hp hs=>?_;have a8:=vX (hp.trans (hok ()).2.1) hs;subst a8;clear hp hs a5;intro r4 H4 a9 e4 h4;clear a9;ac_rfl;rw [FH];refine⟨by omega,by omega,?_⟩;intro r5 H5 bt e5 h5;rw [Hd] at h5;have bS:=e5.at h4;have k':=kk () H5 (e2.trans (e3.trans (e4.trans e5)));clear bt h4 kk;ac_rfl
abbrev vC  (l:Addr) (d:Addr) (n:Int) (H:Hp) (Q:VK) (E:XK):Prop:=∃ (Y Z:List PP) (ys zs:List V) (m:Nat),n=(m:Int)/\m<=8/\H l=some (.lst ys)/\Al (PrV H) Y ys/\H d=some (.lst zs)/\Al (PrV H) Z zs/\Z.length<=60/\¬ Y=[]/\Y.length<=2 * m/\FF m Y/\(∀ y∈Y,y∈Z)/\(∀ a:Nat,a < m->Cu Y a)/\∀ H',Ext H H'->Q (.bl true) H'
def xT  : Sp:=λ vs H Q E=>∃ (l:Addr) (d:Addr) (n:Int),vs=[.ref l,.ref d,.int n]/\(vC  l d n H Q E)
def EV  (l:Addr) (d:Addr) (n:Int) (H:Hp) (Q:VK) (E:XK):xT  [.ref l,.ref d,.int n] H Q E=(vC  l d n H Q E):=B2 (f:=λ (l:Addr) (d:Addr) (n:Int)=>[.ref l,.ref d,.int n]) (λ _ _ _ _ _ _ h=>by cases h;exact⟨rfl,rfl,rfl⟩) l d n
def mm(T:Tx K mg t):bj P w K mg base CX0 1 t.a_Bj t.d_Bj ["_law_told", "_law_due", "_law_axes"] xT:=by
 refine T.F_Bj.ok dC (λ _ _ _ _ h=>B3 h λ _ _ _=>rfl) (λ c A o s H vs Q E hr h=>?_)
 ·obtain⟨l,d,_,rfl,Y,Z,ys,zs,m,rfl,m8,hl,aS,hd,a9,c2,bt,c3,bS,a3,b1,kk⟩:=h;refine⟨_,%[%[(PW.pt %[%[%[%[isinstance,bb,%[%[0|0],%[%[(.ty "list"),(.type "list"),_,∅,T.z_list,nofun,rfl,⋯,⋯|32]|1]|1]|6],(by intros;rfl)|25]|24],%[%[(@Ah _ _ _ _ _ _ _ _ _ _ _ _ sf sf %[0|2] %[len,ak,%[%[0|0]|1]|6] %[cP,%[0|2],%[2|0]|11] ∅)|24]|34]|29]),%[%[(@fW _ _ _ _)|12]|10],(@aq _)|17],%[%[QT,rfl,%[%[0|0]|18],%[3,dC|5],%[%[(PW.pt %[%[%[%[isinstance,bb,%[%[3|0],%[%[(.ty "tuple"),(.type "tuple"),_,∅,T.z_tuple,nofun,rfl,⋯,⋯|32]|1]|1]|6],(by intros;rfl)|25]|24],%[%[(qx hr.units),%[3|0],%[1|0],(by with_unfolding_all rfl)|14]|34]|29]),%[%[(@fW _ _ _ _)|12]|10],(@aq _)|17]|10],(by intros;rfl)|21],%[%[QT,rfl,%[∅,T.z_range,%[%[2|0]|1],∅|35],%[(4),_,dC.nd,rfl,(Or.inr rfl),%[0|7]|15],%[%[(["_law_pair", "_law_told", "_law_due", "_law_axes", "!_law_pair", "_law_axis", "_law_along"]),(1),(5),_,dC.nd,rfl,(Or.inl rfl),(aC (aa dA) ["_law_told", "_law_due", "_law_axes", "_law_pair", "_law_axis", "_law_along"] rfl rfl nofun),rfl,%[%[0|0]|18],(λ C s₀ H₀ ex pn=>%[(0),_,(show List.Nodup (["_law_pair", "_law_told", "_law_due", "_law_axes", "!_law_pair", "_law_axis", "_law_along"]:List Str) from by decide +kernel),rfl,(Or.inl rfl),%[0|7]|15]),(λ C s₀ H₀ ex pn=>(@aI _)),(λ C s₀ H₀ ex pn=>%[eT,%[bY,%[bY,%[0|0],%[0|2],(λ _ _=>rfl)|13],%[5|0],(λ _ _=>rfl)|13],%[bY,%[bY,%[0|0],%[0|2],(λ _ _=>rfl)|13],%[5|0],(λ _ _=>rfl)|13]|11]),∅,(by intros;rfl),%[0|7]|44],%[%[%[(c9 hr.units),%[vN,%[min,(xa rfl),%[%[5|0]|1]|6],%[0|2],(au _)|36],%[si,%[max,(xc rfl),%[%[5|0]|1]|6],%[0|2],(au _)|36],(au _)|14],%[%[(@fW _ _ _ _)|12]|10],(@aq _)|17]|10]|9],(by intros;rfl)|21],%[%[(@fW _ _ _ _)|12]|10]|9]|9]|9],?_⟩;rw [show aw ["_law_told", "_law_due", "_law_axes", "_law_pair", "_law_axis", "_law_along"] [.ref l,.ref d,.int (m:Int)]=[some (.ref l),some (.ref d),some (.int (m:Int)),none,none,none] from rfl];have aX:=aS.1
  have b2:1<=(ys.length:Int):=by
   have:Y.length ≠ 0:=λ e=>bt (RV e);omega
  have hle:(ys.length:Int)<=2 * (m:Int):=by omega
  exists aS;exists a9;exists a3;exists b1;exists kk;exists bS;have q1:1<=(Y.length:Int):=by omega
  have q2:(Y.length:Int)<=2 * (m:Int):=by omega
  have c4:Y.length<=60:=by omega
  exists aX;clear b2 hle;have q3:1<=(ys.length:Int):=by rw [aX ()];exact q1
  have q4:(ys.length:Int)<=2 * (m:Int):=by rw [aX ()];exact q2
  ac_rfl;refine cG (xs:=ys) (λ i σ H'=>∃ v3:Option V,σ=[some (.ref l),some (.ref d),some (.int (m:Int)),v3,none,none]/\Ext H H') ⟨none,rfl,Ext.refl _⟩ (λ i σ H' _ ⟨_,_,e⟩=>e.at hl) ?_ ?_
  ·rintro i y _ H2 hi ⟨v3,rfl,e2⟩;have b6:i < Y.length:=by have:=(QD.mp hi).1;rw [aX ()] at this;exact this
   obtain⟨z,hz⟩:∃ z,Y[i]? = some z:=⟨_,QB b6⟩;have pz:=((aS ()).2 i z y hz hi).ext e2;have b7:=a3 () z (QV hz);have a4:=(a9 ()).imp λ _ _ t=>PrV.ext t e2;have hd2:=e2.at hd;have dp:gY H2 6 y=some (prD z):=FA (f:=dQ H2 (dQ H2 (dQ H2 noD))) pz;have d0:bf (zs.map (gY H2 5))=some (Z.map prD):=sQ (f:=dQ H2 (dQ H2 noD)) a4
   have dl:gY H2 6 (.ref d)=some (.list (Z.map prD)):=by
    rw [jt,hd2]
    show xv (gY H2 5) (.lst zs)=_
    rw [gI,d0];rfl
   obtain⟨q,_,_,rfl,hq,_⟩:=pz;exists dp;exists dl;clear d0 hi hz kk a4;simp! only [↓aA];refine⟨_,_,dp (),dl (),?_⟩;rw [Rc rfl,yI,Q4 b7];ac_rfl;exact⟨_,rfl,e2⟩
  ·rintro _ H2 ⟨v3,rfl,e2⟩;ac_rfl;refine⟨by omega,by omega,?_⟩;refine hG (λ i σ H'=>∃ v4 v5:Option V,σ=[some (.ref l),some (.ref d),some (.int (m:Int)),v3,v4,v5]/\Ext H H') ⟨none,none,rfl,e2⟩ ?_ ?_
   ·rintro i _ H3 hi ⟨v4,v5,rfl,e3⟩;have cf:i < m:=by have:i < ((m:Int)).toNat:=hi;omega
    have b3:=e3.at hl;have b4:=(aS ()).imp λ _ _ t=>PrV.ext t e3;have wk:=dE (K:=K) (R:=λ z x H'=>PrV H' z x) (λ _ _ _ _ h e=>PrV.ext h e) b3 b4;clear hi kk;simp! only [↓aA];refine bc Y (λ _=>true) (λ z=>.int (cw z.1 z.2 i)) (λ z x H'=>PrV H' z x) wk.1 wk.2 (aj %[0|8]) ?_ ?_
    ·intro D z y H' N1 N0 hz hD e hy k1 _;obtain⟨q,u,v,rfl,hq,hu,hv⟩:=hy;have cm:N1 (.int (cw z.1 z.2 i)) H':=k1 rfl H' (Ext.refl _);have c5:=bS () z hz;have a1:=dj (vals:=z.1) (c:=0+(i:Int)) %[0|8] %[0|8];have a2:=dj (vals:=z.2) (c:=0+(i:Int)) %[0|8] %[0|8];have ei:(0+(i:Int)).toNat=i:=by omega
     rw [ei] at a1 a2;unfold cw at cm;clear k1 wk hz;simp! only [↓aV,↓aO]
    intro D H4 hD e4 h4;rw [jc] at h4;have cS:H4 D=some (.lst ((Y.map λ z=>cw z.1 z.2 i).map V.int)):=by rw [h4,Rq];rfl
    have a6:0 < (Y.map λ z=>cw z.1 z.2 i).length:=by rw [QE];omega
    have a5:(∀ g∈Y.map λ z=>cw z.1 z.2 i,g=0)\/((∃ g∈Y.map λ z=>cw z.1 z.2 i,g < 0)/\∃ g∈Y.map λ z=>cw z.1 z.2 i,0 < g):=by
     rcases b1 () i cf with h|⟨⟨z,hz,hg⟩,y,hy,a7⟩
     ·exact .inl λ g hg=>by
       obtain⟨z,hz,e⟩:=QG.mp hg;rw [←e];exact h z hz
     ·exact .inr ⟨⟨_,QG.mpr ⟨z,hz,rfl⟩,hg⟩,_,QG.mpr ⟨y,hy,rfl⟩,a7⟩
    generalize (Y.map λ z=>cw z.1 z.2 i)=gs at cS a6 a5;have b5:=e3.trans e4;clear wk h4 hD b4 b3;ac_rfl;rw [GF];refine⟨a6,λ M hM hle=>?_⟩;ac_rfl;rw [GG];refine⟨a6,λ N hN a8=>?_⟩
    rcases a5 with h0|⟨⟨g,hg,c6⟩,g',a7,c1⟩
    ·have cT:=h0 M hM;have c0:=h0 N hN;subst cT;subst c0;clear hM hle hN a8 h0;ac_rfl;exact⟨_,_,rfl,b5⟩
    ·have c7:M < 0:=by have:=hle g hg;omega
     have c8:0 < N:=by have:=a8 g' a7;omega
     clear hM hle hN a8;ac_rfl;exact⟨_,_,rfl,b5⟩
   ·rintro _ H3 ⟨v4,v5,rfl,e3⟩;have k':=kk () H3 e3;clear kk;ac_rfl
abbrev rn(C:Addr)(u:Addr)(v:Addr)(q:Addr)(H:Hp)(Q:VK)(E:XK):Prop:=∃ (room f1 f2:Int) (A B:List (Int × Int)) (ms:List Int) (os:List (Int × Int)),aE C H u room f1 (A.map aB)/\aE C H v room f2 (B.map aB)/\(A.map λ a=>a.1)=ms/\(B.map λ a=>a.1)=ms/\SzK ms/\1<=room/\room<=4096/\(0<=f1+aJ A/\f1+aG A < room)/\(0<=f2+aJ B/\f2+aG B < room)/\(af f1 A).Nodup/\aP H q (os.map λ o=>[o.1,o.2])/\eS os ms.length/\nK ms (af f1 A) (af f2 B) os=true/\∀ H',Ext H H'->Q (.bl true) H'
def sO(C:Addr):Sp:=λ vs H Q E=>∃ (u:Addr) (v:Addr) (q:Addr),vs=[.ref u,.ref v,.ref q]/\(rn C u v q H Q E)
def BV(C:Addr)(u:Addr)(v:Addr)(q:Addr)(H:Hp)(Q:VK)(E:XK):sO C [.ref u,.ref v,.ref q] H Q E=(rn C u v q H Q E):=B2 (f:=λ (u:Addr) (v:Addr) (q:Addr)=>[.ref u,.ref v,.ref q]) (λ _ _ _ _ _ _ h=>by cases h;exact⟨rfl,rfl,rfl⟩) u v q
def i6(T:Tx K mg t):bj P w K mg base CX0 10 t.a_t7 t.d_t7 ["_law_one", "_law_other", "_law_order"] (sO t.a_Vm):=by
 have G_wL:=%[jC|46];have G_Vg:=%[Av|46];have G_wZ:=%[lP|46];have G_t5:=%[dO|46];refine T.F_t7.ok bW (λ _ _ _ _ h=>B3 h λ _ _ _=>rfl) (λ c A o s H vs Q E hr h=>?_)
 ·obtain⟨u,v,q,rfl,room,f1,f2,A,B,ms,os,vu,vv,m1,m2,hsz,r1,r2,en,ep,et,tq,hok,ew,kk⟩:=h;obtain⟨dx,D,hu,tD⟩:=vu.ob;obtain⟨uq,g8,ey⟩:=tq;have c1:=T.cl_View;have c2:=T.na_View_room;have g1:=fb room f1 D;have cS:=T.cl_Store;refine⟨_,%[%[(["_law_k", "_law_one", "_law_other", "_law_order", "_law_held", "_law_store", "_law_beside"]),(1),(3),_,bW.nd,rfl,(Or.inl rfl),(aC (aa bV) ["_law_one", "_law_other", "_law_order", "_law_held", "_law_store", "_law_beside"] rfl rfl nofun),rfl,%[∅,T.z_range,%[%[%[0|0],rfl|27]|1],∅|35],(λ C s₀ H₀ ex pn=>%[(0),_,(show List.Nodup (["_law_k", "_law_one", "_law_other", "_law_order", "_law_held", "_law_store", "_law_beside"]:List Str) from by decide +kernel),rfl,(Or.inl rfl),%[0|7]|15]),(λ C s₀ H₀ ex pn=>(@aI _)),(λ C s₀ H₀ ex pn=>%[bG,%[cP,%[cP,%[0|2],%[0|0]|11],%[0|0]|11],%[0|2]|11]),∅,(by intros;rfl),%[0|7]|44],%[%[4,bW,%[T.mk_Store,G_wL,(hr.mono ⋯),∅,T.m_Vl,T.b_wL,.nil,aZ,%[%[3|0]|1],⋯,∅,∅|45]|4],%[%[5,bW,%[T.mk_Store,G_wL,(hr.mono ⋯),∅,T.m_Vl,T.b_wL,.nil,aZ,%[%[3|0]|1],⋯,∅,∅|45]|4],%[%[%[Vg,%[%[4|0],%[%[0|0],%[%[1|0],%[%[gL,∅,T.z_list,nofun,%[%[2|0]|1],⋯,⋯,∅,∅|42]|1]|1]|1]|1]|3],∅|19],%[%[%[%[5|0],T.cl_Store,T.mt_Store_copied,G_wZ,(hr.mono ⋯),T.b_wZ,.nil,aZ,%[%[0|0],%[%[1|0]|1]|1],∅,∅,∅|37],∅|19],%[%[%[(cy hr.units),%[%[4|0],T.cl_Store,T.mt_Store_all_values,G_t5,(hr.mono ⋯),T.b_t5,.nil,aZ,∅|23],%[%[5|0],T.cl_Store,T.mt_Store_all_values,G_t5,(hr.mono ⋯),T.b_t5,.nil,aZ,∅|23],(au _)|36]|12]|10]|9]|9]|9]|9]|9],?_⟩;rw [show aw ["_law_one", "_law_other", "_law_order", "_law_held", "_law_store", "_law_beside"] [.ref u,.ref v,.ref q]=[some (.ref u),some (.ref v),some (.ref q),none,none,none] from rfl];clear G_wL G_Vg G_wZ G_t5;have h6:=hsz.pos.1;have h8:=hsz.pos.2.1;have ht:=hsz.pos.2.2;have hs:∀ n∈ms,1<=n/\n<=1000000000:=λ n hn=>by have:=h6 n hn;omega
  have dr:fh A:=⟨by rw [←QE (f:=λ a:Int × Int=>a.1),m1];exact h8,λ a ha=>hs a.1 (by rw [←m1];exact QG.mpr ⟨a,ha,rfl⟩)⟩;have dy:fh B:=⟨by rw [←QE (f:=λ a:Int × Int=>a.1),m2];exact h8,λ a ha=>hs a.1 (by rw [←m2];exact QG.mpr ⟨a,ha,rfl⟩)⟩;have hb:=dG dr;have hg:=dG dy;have cm:=ff f1 A λ a ha=>(dr.2 a ha).1;have cT:=ff f2 B λ a ha=>(dy.2 a ha).1;have c0:(A.map aB).map (λ a=>a.1)=ms:=by rw [cA];exact m1
  have dz:(B.map aB).map (λ a=>a.1)=ms:=by rw [cA];exact m2
  obtain⟨n,hn⟩:=QU (show 0<=room by omega);subst hn;have ez:∀ z∈aD ms os,InR ms z:=n9 hs λ o ho=>hok.toP.1 o ho
  have c3:fk (af f1 A) n:=λ c hc=>by
   obtain⟨xs,hx,e⟩:=(m4 f1 A c).mp hc;have:=fB A xs hx;omega
  have c4:fk (af f2 B) n:=λ c hc=>by
   obtain⟨xs,hx,e⟩:=(m4 f2 B c).mp hc;have:=fB B xs hx;omega
  have eB:=uL hok.2.1;have lc:=λ (vals:List Int) (hv:vals.length=n)=>A9 (vals:=vals) hs m1 m2 et hok ez (by rw [hv];exact c3) (by rw [hv];exact c4) ew;exists lc;exists kk;exists cm;exists cT;exists c0;exists dz;exists hok;exists eB;exists h6;exists m1;exists m2;exists c3;exists c4;have c8:=λ (_:Unit)=>ey;clear et ew hs dr dy ez ey tD;ac_rfl;refine⟨by omega,by omega,?_⟩;rw [QO];refine bc (List.range n) (λ _=>true) (λ j=>.int (7 * (j:Int) * (j:Int)+3)) (λ j x H'=>x=.int (0+(j:Nat))) fM.1 fM.2 (aj (by rw [Rb];omega)) ?_ ?_
  ·intro D' j y H' N1 N0 hj hA e hy k1 _;subst hy;have hB:=Rj.mp hj;have hC:N1 (.int (7 * (j:Int) * (j:Int)+3)) H':=k1 rfl H' (Ext.refl _);have hD:kd 7 (j:Int):=.inl ⟨by decide,by decide⟩;have hE:kd (7 * (j:Int)) (j:Int):=.inr ⟨by omega,by omega⟩;clear k1 kk hj;rw [Rv];simp! only [↓aV,↓aO]
  intro D1 H1 hh e1 h1;rw [jc] at h1;obtain⟨vals,hvals⟩:∃ vals:List Int,vals=(List.range n).map λ (j:Nat)=>7 * (j:Int) * (j:Int)+3:=⟨_,rfl⟩;have d0:H1 D1=some (.lst (vals.map V.int)):=by rw [h1,hvals,Rq];rfl
  have c5:vals.length=n:=by rw [hvals,QE,Rb]
  have eH:=λ (_:Unit)=>lc () vals c5;have d3:(vals.length:Int)=(n:Int):=by omega
  have d4:1<=vals.length:=by omega
  have b1:vals.length<=4096:=by omega
  exists c5;exists d3;clear h1 hvals lc hh;ac_rfl;intro s1 eM H5 a4 e0 e2 e5 h5 hk;rw [qQ];refine⟨eM,vals,h5,e5.at d0,d4,b1,λ H6 l1 e6 e3 e4 fa=>?_⟩;have c6:=e6 H1 e5 a4;have d5:cU t.a_Vl H6 s1 l1 vals:=⟨⟨eM,e4⟩,fa⟩;have b2:H1 l1=none:=e5.free e3;have de:=c6.at d0;clear h5 hk a4 e0 e2 e5 e6 e3 e4 fa;ac_rfl;intro s2 fo H7 a5 fu fv e7 h7 hl;rw [qQ];refine⟨fo,vals,h7,e7.at de,d4,b1,λ H8 l2 e8 c7 fx fy=>?_⟩;have d6:=e8 H6 e7 a5;have f3:cU t.a_Vl H8 s2 l2 vals:=⟨⟨fo,fx⟩,fy⟩;have a6:=d5.ext d6;have f5:l2 ≠ l1:=λ e=>by rw [e,e7.at d5.fl] at c7;cases c7
  have f6:=c6.trans d6;have d7:=e1.trans f6;have b3:H1 l2=none:=(c6.trans e7).free c7;have f7:=d7.at g8;clear h7 hl a5 fu fv e7 e8 c7 fx fy de d5;ac_rfl;intro q9 H9 d8 e9 h9;have b4:=d7.trans e9;have b5:=a6.ext e9;have d9:=f3.ext e9;have t9:aP H9 q9 (os.map λ o=>[o.1,o.2]):=⟨uq,h9,(c8 ()).imp λ _ _ t=>bD.ext t b4⟩;have f9:=qw (hok ()) t9;have hp:q9 ≠ l1:=λ e=>by rw [e,a6.fl] at d8;cases d8
  have ea:=vu.ext b4;have eb:=vv.ext b4;rw [←d3 ()] at ea eb en ep;clear d8 h9 f7 a6 f3 t9;ac_rfl;rw [xk];refine⟨l1,vals,ms,os,f1,f2,A,B,b5,ea,eb,f9,As (hok ()),h6 (),h8,by rw [eB ()];omega,m1 (),m2 (),d4,b1,en,ep,λ gs x1 x2 x3=>?_⟩;rw [eH ()] at x3;have ec:H l1=none:=e1.free b2;have eg:H l2=none:=e1.free b3;have a7:=x1 H b4 ec;obtain⟨⟨d1,a4⟩,ei⟩:=b5;obtain⟨⟨d2,a5⟩,gx⟩:=d9;have aX:=x2 s1 _ (λ e=>by rw [e,ei] at a4;cases a4) a4;have aS:=x2 s2 _ (λ e=>by rw [e,ei] at a5;cases a5) a5;have a8:=x2 l2 _ f5 gx;have a3:cU t.a_Vl gs s2 l2 vals:=⟨⟨d2,aS⟩,a8⟩;have b6:=vu.ext a7;have b7:=vv.ext a7;rw [←d3 ()] at b6 b7;have g2:=bJ l2 (m := "copied") nofun;have g3:=bJ l1 (m := "all_values") nofun;have g4:=bJ l2 (m := "all_values") nofun;have ej:(uu vals (af f1 A) (iB vals (af f2 B))).length<=4096:=by rw [lq];exact b1
  have gy:∀ b o,b ≠ l1->H9 b=some o->gs b=some o:=x2;clear a4 a5 ei gx ea eb f9 hp e9 b4 d7 f6 c6 d6 x1 x2 a8 d0 eH c8 b2 b3 gy;ac_rfl;rw [xm];refine⟨l2,vals,f1,f2,_,_,a3,b6,b7,hb,hg,b1,by rw [c0 ()];omega,by rw [c0 (),dz ()],by rw [cm (),c5 ()];exact c3 (),by rw [cT (),c5 ()];exact c4 (),λ hF y1 y2 y3=>?_⟩;rw [cm (),cT ()] at y3;generalize uu vals (af f1 A) (iB vals (af f2 B))=ws at x3 y3 ej;have gB:=y1 H a7 eg;have a9:=y2 s1 _ (λ e=>by rw [e,a3.fl] at aX;cases aX) aX;have bt:=y2 s2 _ (λ e=>by rw [e,a3.fl] at aS;cases aS) aS;have gS:=y2 l1 _ (QQ f5) x3;clear aX aS a3 b6 b7 x3 y1 y2 a7 cm cT c0 dz c3 c4;ac_rfl;rw [oU];refine⟨l1,ws,⟨⟨d1,a9⟩,gS⟩,ej,λ hI hJ gW el g0=>?_⟩;have bS:=el.at bt;have cf:=el.at y3;clear gW bt a9 y3 gS;ac_rfl;rw [oU];refine⟨l2,ws,⟨⟨d2,bS⟩,cf⟩,ej,λ hK hq g5 g6 hL=>?_⟩;have g7:=g6.at g0;have k':=kk () hq (gB.trans (el.trans g6));clear g5 bS cf kk g0;ac_rfl
def Ph(ms:List Int)(a:Int × Int):List Int × List Int:=(ao ms a.1,ao ms a.2)
def CW(ms:List Int)(L:List (Nat × Nat)):(ijL L).map (Ph ms)=L.map (ur ms):=by
 unfold ijL;rw [map_map];rfl
abbrev nC  (x:Addr) (p:Addr) (w1:Addr) (w2:Addr) (H:Hp) (Q:VK) (E:XK):Prop:=∃ (ms ws rs:List Int),H p=some (.lst (ms.map V.int))/\H w1=some (.lst (ws.map V.int))/\H w2=some (.lst (rs.map V.int))/\SzK ms/\(ws.length:Int)=ae ms/\(rs.length:Int)=ae ms/\ws.Nodup/\GA ((aQ ws rs rs.length).map (ur ms)) ms.length H x/\∀ H',Ext H H'->Q (.bl true) H'
def oB  : Sp:=λ vs H Q E=>∃ (x:Addr) (p:Addr) (w1:Addr) (w2:Addr),vs=[.ref x,.ref p,.ref w1,.ref w2]/\(nC  x p w1 w2 H Q E)
def jx  (x:Addr) (p:Addr) (w1:Addr) (w2:Addr) (H:Hp) (Q:VK) (E:XK):oB  [.ref x,.ref p,.ref w1,.ref w2] H Q E=(nC  x p w1 w2 H Q E):=M3 (f:=λ (x:Addr) (p:Addr) (w1:Addr) (w2:Addr)=>[.ref x,.ref p,.ref w1,.ref w2]) (λ _ _ _ _ _ _ _ _ h=>by cases h;exact⟨rfl,rfl,rfl,rfl⟩) x p w1 w2
def pe(T:Tx K mg t):bj P w K mg base CX0 5 t.a_DZ t.d_DZ ["_law_told", "_law_sizes_here", "_law_writes", "_law_reads"] oB:=by
 have G_wQ:=%[fR|46];have G_DY:=%[pj|46];have G_Bh:=%[mi|46];have G_DX:=%[pf|46];have G_Bj:=%[mm|46];refine T.F_DZ.ok gn (λ _ _ _ _ h=>M4 h λ _ _ _ _=>rfl) (λ c A o s H vs Q E hr h=>?_)
 ·obtain⟨x,p,w1,w2,rfl,ms,ws,rs,hp,b6,b7,hsz,l1,l2,a7,told,kk⟩:=h;refine⟨_,%[%[(PW.pt %[%[%[%[isinstance,bb,%[%[0|0],%[%[(.ty "tuple"),(.type "tuple"),_,∅,T.z_tuple,nofun,rfl,⋯,⋯|32]|1]|1]|6],(by intros;rfl)|25]|24],%[%[(c9 hr.units),%[len,ak,%[%[0|0]|1]|6],%[0|2],(au _)|14]|34]|29]),%[%[(@fW _ _ _ _)|12]|10],(@aq _)|17],%[%[%[(cy hr.units),%[bY,%[0|0],%[0|2],(λ _ _=>rfl)|13],(@mE _ _ _ _),(au _)|14],%[%[%[%[wQ,%[%[bY,%[0|0],%[0|2],(λ _ _=>rfl)|13],%[%[len,ak,%[%[1|0]|1]|6]|1]|1]|3],%[%[DY,%[%[1|0],%[%[bY,%[0|0],%[0|2],(λ _ _=>rfl)|13],%[%[2|0],%[%[3|0]|1]|1]|1]|1]|3]|40]|31]|12]|10],(@aq _)|17],%[(@gQ _ _ (4) _ _ _ _ gn.nd rfl (Or.inr rfl) %[Bh,%[%[1|0]|1]|3] ∅ %[0|7]),%[%[(["_law_i", "_law_j", "_law_told", "_law_sizes_here", "_law_writes", "_law_reads", "_law_some", "_law_due"]),(2),(5),_,gn.nd,rfl,(Or.inl rfl),(aC (aa dZ) ["_law_told", "_law_sizes_here", "_law_writes", "_law_reads", "_law_some", "_law_due"] rfl rfl nofun),rfl,%[%[DX,%[%[2|0],%[%[3|0]|1]|1]|3]|18],(λ C s₀ H₀ ex pn=>(%[(2),rfl,%[%[(0),_,(show List.Nodup (["_law_i", "_law_j", "_law_told", "_law_sizes_here", "_law_writes", "_law_reads", "_law_some", "_law_due"]:List Str) from by decide +kernel),rfl,(Or.inl rfl),%[0|7]|15],%[%[(1),_,(show List.Nodup (["_law_i", "_law_j", "_law_told", "_law_sizes_here", "_law_writes", "_law_reads", "_law_some", "_law_due"]:List Str) from by decide +kernel),rfl,(Or.inl rfl),%[0|7]|15],(@aL _),∅|16],∅|16],∅,∅|26].mono λ _ _ _ _ h=>b0 h)),(λ C s₀ H₀ ex pn=>(@aI _)),(λ C s₀ H₀ ex pn=>%[%[%[bY,%[6|0],%[0|0],(λ _ _=>rfl)|13],%[%[bY,%[6|0],%[1|0],(λ _ _=>rfl)|13]|1]|1]|28]),∅,(by intros;rfl),%[0|7]|44],%[%[%[%[(cy hr.units),%[bY,%[0|0],%[0|2],(λ _ _=>rfl)|13],(@mE _ _ _ _),(au _)|36],%[%[Bj,%[%[bY,%[0|0],%[0|2],(λ _ _=>rfl)|13],%[%[5|0],%[%[len,ak,%[%[1|0]|1]|6]|1]|1]|1]|3]|40]|31]|12]|10]|9]|9]|9]|9],?_⟩;rw [show aw ["_law_told", "_law_sizes_here", "_law_writes", "_law_reads", "_law_some", "_law_due"] [.ref x,.ref p,.ref w1,.ref w2]=[some (.ref x),some (.ref p),some (.ref w1),some (.ref w2),none,none] from rfl];clear G_wQ G_DY G_Bh G_DX G_Bj;have h8:=hsz.pos.2.1;have eb:=hsz.pos.2.2;have h6:=hsz.pos.1;have hs:∀ n∈ms,1<=n/\n<=1000000000:=λ n hn=>by have:=h6 n hn;omega
  have cf:=Ds hs l1 l2 a7;have a8:FF ms.length ((aQ ws rs rs.length).map (ur ms)):=PrV.len;have cm:=λ os=>mU ms ws rs os;have cS:ws.length<=60:=by omega
  have a9:rs.length=ws.length:=by omega
  have ec:=gF ws rs rs.length;exists kk;exists a7;exists cf;exists a8;exists cm;exists hs;exists hsz;exists a9;clear h6
  rcases told with ⟨os,r,hx,tr,hok,cT⟩|⟨L,Y,r,ys,hx,d0,c0,aS,c1,c2,d1,aX⟩
  ·have c3:nK ms ws rs os=true:=by rw [←cm () os];exact SV.mpr cT
   exists c3;exists hok;clear cT;ac_rfl;rw [zy];refine⟨ms.length,os,rfl,h8,tr,hok (),λ H1 e1=>?_⟩;have eg:=e1.at hx;clear hx;ac_rfl;rw [BS];refine⟨ms,os,ws,rs,e1.at hp,tr.ext e1,hok (),e1.at b6,e1.at b7,hsz (),l1,l2,a7 (),λ H2 e2=>?_⟩;rw [c3 ()];have k':=kk () H2 (e1.trans e2);clear kk;ac_rfl
  ·have c4:=aS.some (λ z hz=>a8 () z (aX z hz)) c2 λ z hz=>(cf () z (aX z hz)).1;have c5:=aS.both c1;have bt:∀ y∈Y,y∈(aQ ws rs rs.length).map (ur ms):=λ y hy=>aX y (aS.1 y hy);exists c4;exists c5;exists bt;exists c0;clear aS c1 c2 aX;ac_rfl;rw [JH];refine⟨ms,hp,⟨h8,hs ()⟩,by omega,λ r2 H2 e2 t2=>?_⟩;have a3:=e2.at b6;have a4:=e2.at b7;ac_rfl;rw [xl];refine⟨ws,rs,a3,a4,a7 (),a9 (),cS,λ r3 H3 d2 e3 t3=>?_⟩;obtain⟨ts,c6,c7⟩:=t3;obtain⟨ls,c8,bS⟩:=t2;have hlen:ls.length=ws.length:=by rw [bS.1];unfold bE;rw [length_map,length_range];omega
   have b3:=e2.trans e3;have de:=b3.at hx;have dr:=b3.at hp;have dy:=e3.at c8;have a5:=bS.imp λ _ _ t=>bD.ext t e3;have wk:=dE (K:=K) (R:=axP) (λ _ _ _ _ h e=>h.ext e) c6 (jH c7);exists hlen;exists a5;clear a3 a4 c8 bS c7 d2 e2 e3 hx hp;ac_rfl;refine dH (ijL (aQ ws rs rs.length)) (λ _=>true) axP (λ D a y H'=>PrV H' (Ph ms a) y) wk.1 wk.2 (λ D _ y H1 H2 h e=>h.ext e) (λ D _ y H1 xs o h hD=>h.upd hD) (aj (by unfold ijL;rw [length_map];omega)) ?_ ?_
   ·intro D' x y H' N1 N0 ha hD e _ ⟨q,hy,hq⟩ k1 _;subst hy;have d3:=k1 rfl;obtain⟨z,hz,rfl⟩:=QG.mp ha;obtain⟨b1,b2⟩:=Ap z hz;obtain⟨q1,ei,d4⟩:=Ff (a5 ()) (i:=z.1) (by rw [hlen ()];exact b1);obtain⟨q2,ej,d5⟩:=Ff (a5 ()) (i:=z.2) (by rw [hlen (),←a9 ()];exact b2);have ea:=e.at dy;have d6:=e.at d4;have d7:=e.at d5;clear k1 wk kk ha hz;simp! only [↓dg,↓aO];intro t1 H6 el e6 h6;exact d3 _ H6 e6 ⟨t1,q1,q2,rfl,h6,e6.at d6,e6.at d7⟩
   intro D2 d8 H4 dz e4 d9 b4;rw [jc] at b4;have a6:=MU b4;rw [CW] at a6;have en:=e4.at de;have ep:=e4.at dr;have b5:=b3.trans e4;exists a6;clear wk b4 c6 dz de dr;ac_rfl;rw [EV];refine⟨Y,_,ys,d8,ms.length,rfl,h8,b5.at d0,(c0 ()).imp λ _ _ t=>PrV.ext t b5,d9,a6 (),by rw [QE];omega,c4 (),d1,(λ z hz=>a8 () z (bt () z hz)),bt (),c5 (),λ H5 e5=>?_⟩;have k':=kk () H5 (b5.trans e5);clear kk;ac_rfl
def wrd(b:Bool):Str:=if b=true then "loops" else "none"
def iK{Z:List PP}{n:Nat}{H:Hp}{x:Addr}(h8:n<=8)(h:GA Z n H x):∃ (b:Bool) (r:Addr) (xs:List V),H x=some (.tup [.str (wrd b),.ref r])/\H r=some (.lst xs)/\xs.length<=16/\(b=true ↔ ∃ os,eS os n/\∀ z∈Z,crB os z.1 z.2=true)/\(b=true->∃ os,aP H r (os.map λ o=>[o.1,o.2])/\eS os n/\∀ z∈Z,crB os z.1 z.2=true):=by
 rcases h with ⟨os,r,hx,tr,hok,aS⟩|⟨L,Y,r,ys,hx,hr,a3,_,a4,a5,a7,aX⟩
 ·have a6:=tr;obtain⟨us,hu,al⟩:=a6;exact⟨true,r,us,hx,hu,by rw [al.1,QE,hok.1];omega,⟨λ _=>⟨os,hok,aS⟩,λ _=>rfl⟩,λ _=>⟨os,tr,hok,aS⟩⟩
 ·exact⟨false,r,ys,hx,hr,by rw [a3.1];omega,⟨(λ h=>by cases h),λ ⟨os,hok,aS⟩=>(MS a5 a4 hok λ z hz=>aS z (aX z hz)).elim⟩,λ h=>by cases h⟩
def p8{Z:List PP}{n:Nat}{b c:Bool}(h1:b=true ↔ ∃ os,eS os n/\∀ z∈Z,crB os z.1 z.2=true)(h2:c=true ↔ ∃ os,eS os n/\∀ z∈Z,crB os z.1 z.2=true):c=b:=by
 cases b with
 | true=>exact h2.mpr (h1.mp rfl)
 | false=>cases c with
  | false=>rfl
  | true=>exact(h1.mpr (h2.mp rfl)).symm
def zT{ms ws:List Int}{n:Nat}{b:Bool}(aS:ws.Nodup)(h:b=true ↔ ∃ os,eS os n/\∀ z∈(aQ ws ws ws.length).map (ur ms),crB os z.1 z.2=true):b=true:=by
 refine h.mpr ⟨_,(show xu n [] from ⟨(λ o h=>by cases h),Ta⟩).full,λ z hz=>?_⟩;obtain⟨⟨i,j⟩,hp,rfl⟩:=QG.mp hz;obtain⟨_,c,_,h1,h2⟩:=(iP aS).mp hp;exact absurd h1 h2
abbrev JP(K:PySem.W.Frag)(a:Addr)(H:Hp)(Q:VK)(E:XK):Prop:=∃ ns:List Int,SqL K H a (ns.map V.int)/\ns.length<=63/\∀ H',Q (.bl true) H'
def xx(K:W.Frag):Sp:=λ vs H Q E=>∃ (a:Addr),vs=[.ref a]/\(JP K a H Q E)
def Lk(T:Tx K mg t):bj P w K mg base CX0 11 t.a_law t.d_law ["_law_script"] (xx K):=by
 refine T.F_law.ok l4 (λ _ _ _ _ h=>lU h λ _=>rfl) (λ c A o s H vs Q E hr h=>?_)
 ·obtain⟨a,rfl,ns,hS,hl,kk⟩:=h;have G_Bt:=%[pd|46] a ns;have G_IX:=%[tM|46] a ns;have G_IZ:=%[tN|46] a ns;have G_Bq:=%[o8|46];have G_DZ:=%[pe|46];have G_t7:=%[i6|46];have G_wQ:=%[fR|46];have G_Bo:=%[bR|46];have c1:=T.cl_View;refine⟨_,%[%[1,l4,%[Bt,%[%[0|0],%[%[0|2],%[(@fW _ _ _ _)|1]|1]|1]|3]|4],%[(@pU _ _ _ _ _ _ %[IX,%[%[0|0],%[%[1|0]|1]|1]|3] (%[(4),rfl,%[%[2,l4|5],%[%[3,l4|5],%[%[4,l4|5],%[%[5,l4|5],(@aL _),∅|16],∅|16],∅|16],∅|16],∅,∅|26].mono λ _ _ _ _ h=>b0 h) ∅ ∅ ∅),%[%[6,l4,%[Bq,%[%[2|0],%[%[3|0]|1]|1]|3]|4],%[%[%[%[%[DZ,%[%[6|0],%[%[1|0],%[%[4|0],%[%[5|0]|1]|1]|1]|1]|3],(by intros;rfl)|25]|24],%[%[(@fW _ _ _ _)|12]|10],(@aq _)|17],%[%[(PW.pt (@mD _ _ _ _ _ _ _ %[(cy hr.units),%[bY,%[6|0],%[0|2],(λ _ _=>rfl)|13],(@mE _ _ _ _),(au _)|14] (@kl _ _ _ _ %[%[%[t7,%[%[2|0],%[%[3|0],%[%[bY,%[6|0],%[0|2],(λ _ _=>rfl)|13]|1]|1]|1]|3],(by intros;rfl)|25]|24]))),%[%[(@fW _ _ _ _)|12]|10],(@aq _)|17],%[%[%[Q3,RG,RF,b8,%[bY,%[6|0],%[0|2],(λ _ _=>rfl)|13],%[%[(@cx _)|28]|1],∅,∅,∅,∅,∅|33],∅|19],%[%[7,l4,%[Bq,%[%[IZ,%[%[0|0],%[%[2|0]|1]|1]|3],%[%[IZ,%[%[0|0],%[%[3|0]|1]|1]|3]|1]|1]|3]|4],%[%[(PW.pt %[%[(c9 hr.units),%[bY,%[7|0],%[0|2],(λ _ _=>rfl)|13],%[bY,%[6|0],%[0|2],(λ _ _=>rfl)|13],(au _)|14],%[%[%[%[DZ,%[%[7|0],%[%[1|0],%[%[4|0],%[%[5|0]|1]|1]|1]|1]|3],(by intros;rfl)|25]|24]|34]|29]),%[%[(@fW _ _ _ _)|12]|10],(@aq _)|17],%[%[8,l4,%[Bq,%[%[2|0],%[%[2|0]|1]|1]|3]|4],%[%[(PW.pt %[%[(c9 hr.units),%[bY,%[8|0],%[0|2],(λ _ _=>rfl)|13],(@mE _ _ _ _),(au _)|14],%[%[%[%[wQ,%[%[bY,%[8|0],%[0|2],(λ _ _=>rfl)|13],%[%[len,ak,%[%[1|0]|1]|6]|1]|1]|3],(by intros;rfl)|25]|24]|34]|29]),%[%[(@fW _ _ _ _)|12]|10],(@aq _)|17],%[%[9,l4,%[Bq,%[%[2|0],%[%[3|0]|1]|1]|3]|4],%[%[%[%[(cy hr.units),%[bY,%[9|0],%[0|2],(λ _ _=>rfl)|13],%[bY,%[6|0],%[0|2],(λ _ _=>rfl)|13],(au _)|36],%[%[DZ,%[%[9|0],%[%[1|0],%[%[4|0],%[%[5|0]|1]|1]|1]|1]|3],%[%[(cy hr.units),%[%[2|0],T.cl_View,T.mt_View_cells,G_Bo,(hr.mono ⋯),T.b_Bo,.nil,aZ,∅|23],%[4|0],(au _)|36]|40]|31]|31]|12]|10]|9]|9]|9]|9]|9]|9]|9]|9]|9]|9]|9],?_⟩;rw [show aw ["_law_script", "_law_sizes_here", "_law_one", "_law_other", "_law_writes", "_law_reads", "_law_told", "_law_far_here", "_law_same", "_law_again"] [.ref a]=[some (.ref a),none,none,none,none,none,none,none,none,none] from rfl];clear G_Bt G_IX G_IZ G_Bq G_DZ G_t7 G_wQ G_Bo;exists kk;ac_rfl;rw [JG];refine⟨rfl,hS,hl,λ ms pl H1 e1 h1 hsz=>?_⟩;have e7:=e1.2 K a _ hS;ac_rfl;rw [JF];refine⟨rfl,e7,hl,ms,h1,hsz,λ room f1 f2 ps qs x1 x2 w1 w2 r2 H2 e2 h2 v1 v2 d5 d6 o1 o2 fa fo a5=>?_⟩;have gW:=e2.2 K a _ e7;have cT:=e2.at h1;have h8:=hsz.pos.2.1;have d7:=hsz.pos.2.2;have d8:=yv o1.len;have d9:=yv o2.len;have c0:=nY hsz o1.len;have c2:=nY hsz o2.len;have c3:(0<=f1+aJ (ms.zip ps)/\f1+aG (ms.zip ps) < room):=⟨o1.lo,o1.hi⟩;have c4:(0<=f2+aJ (ms.zip qs)/\f2+aG (ms.zip qs) < room):=⟨o2.lo,o2.hi⟩;generalize ms.zip ps=A at *;generalize ms.zip qs=B at *;have a7:=ff f1 A λ a ha=>(c0.2 a ha).1;have c5:=ff f2 B λ a ha=>(c2.2 a ha).1;have c6:=aF f1 A λ a ha=>(c0.2 a ha).1;have c7:=aF f2 B λ a ha=>(c2.2 a ha).1;rw [d8] at c6;rw [d9] at c7;have a9:=dG c0;have ea:=dG c2;have bt:(A.map aB).map (λ a=>a.1)=ms:=by rw [cA];exact d8
  have eb:(B.map aB).map (λ a=>a.1)=ms:=by rw [cA];exact d9
  obtain⟨g0,g4⟩:=eW A λ a ha=>(c0.2 a ha).1;obtain⟨g5,g6⟩:=eW B λ a ha=>(c2.2 a ha).1;have lo1:=c3.1;have g7:=c3.2;have g8:=c4.1;have hc:=c4.2;rw [←g0] at lo1;rw [←g4] at g7;rw [←g5] at g8;rw [←g6] at hc;have hT:=λ (_:Unit)=>lp (pP ns) A;have hX:=λ (_:Unit)=>lp (pP ns) B;have hB:=(yp ns).1;have gB:∀ (f:Int) (A:List (Int × Int)) (cs:List Int),af f A=cs->af (f * pP ns+B7 ns) (ba (pP ns) A)=cs.map λ c=>c * pP ns+B7 ns:=λ f A cs h=>by rw [rM,h]
  have gS:∀ (A:List (Int × Int)),A.map (λ a=>a.1)=ms->(ba (pP ns) A).map (λ a=>a.1)=ms:=λ A h=>by rw [Ae];exact h
  have fu:P9 λ c=>c * pP ns+B7 ns:=Jk hB;obtain⟨ws,ec⟩:∃ ws,af f1 A=ws:=⟨_,rfl⟩;obtain⟨rs,fv⟩:∃ rs,af f2 B=rs:=⟨_,rfl⟩;rw [ec] at a7 c6 d5 a5;rw [fv] at c5 c7 d6;have fx:=gB f1 (A.map aB) ws a7;have hg:=gB f2 (B.map aB) rs c5;have eg:(af f1 (A.map aB)).Nodup:=by rw [a7];exact a5
  have hh:(af (f1 * pP ns+B7 ns) (ba (pP ns) (A.map aB))).Nodup:=by rw [fx];exact(Ax fu ws).mpr a5
  have hj:=wb fu ws rs rs.length;exists gS;exists a5;exists bt;exists eb;exists hsz;exists eg;exists hh;exists hj;exists fx;exists hg;exists a7;exists c5;exists ec;exists fv;exists d8;exists d9;clear c0 c2 g0 g5 g4 g6 o1 o2 e7 hS e1 h1 gB fu e2;ac_rfl;rw [iT];refine⟨room,f1,f2,_,_,ms,v1,v2,a9,ea,bt (),eb (),d7,eg (),λ x3 H3 e3 hk a3=>?_⟩;rw [a7 (),c5 ()] at a3;obtain⟨b,r3,ei,fy,ho,i0,hb,f3⟩:=iK h8 a3;have hp:=hk _ _ fy;exists a3;exists hb;exists f3;clear hk;ac_rfl;rw [jx];refine⟨ms,ws,rs,e3.at cT,e3.at d5,e3.at d6,hsz (),c6,c7,a5 (),a3 (),λ H4 e4=>?_⟩;have ej:=e3.trans e4;have cS:=e4.at fy;have hq:=e4.at ho;have b3:=λ (_:Unit)=>λ h=>(let ⟨os,t,o⟩:=f3 () h;(⟨os,t.ext e4,o⟩:∃ os:List (Int × Int),aP H4 r3 (os.map λ (o:Int × Int)=>[o.1,o.2])/\eS os ms.length/\∀ z∈(aQ ws rs rs.length).map (ur ms),crB os z.1 z.2=true));clear a3 fy ho f3 e3 e4;simp! only [-pZ];refine uF (λ σ' H'=>σ'=[some (.ref a),some (.ref pl),some (.ref x1),some (.ref x2),some (.ref w1),some (.ref w2),some (.ref x3),none,none,none]/\Ext H4 H') (λ i1 hn=>?_) ?_
  ·exists hn
   cases b with
   | true=>
    obtain⟨os,tr,hok,hs⟩:=b3 () rfl;have ht:nK ms (af f1 A) (af f2 B) os=true:=by rw [ec (),fv (),←mU];exact SV.mpr hs
    have hu:H4 x3=some (.tup [.str "loops",.ref r3]):=cS;exists ht;exists hok;clear hs b3 cS kk;ac_rfl;rw [BV];refine⟨room,f1,f2,A,B,ms,os,v1.ext ej,v2.ext ej,d8 (),d9 (),hsz (),fa,fo,c3,c4,by rw [ec ()];exact a5 (),tr,hok (),ht (),λ H5 e5=>?_⟩;have hY:=hn () _ H5 ⟨rfl,e5⟩;clear hn;ac_rfl
   | false=>
    have hu:H4 x3=some (.tup [.str "none",.ref r3]):=cS;have hY:=hn () _ H4 ⟨rfl,Ext.refl _⟩;clear b3 cS kk hn;ac_rfl
  rintro _ H5 ⟨rfl,e5⟩;have hv:=ej.trans e5;have hy:=e5.at cS;have hA:=e5.at hq;clear b3 cS hq ej e5;ac_rfl;intro m6 H6 h3 e6 h6;have el:=e6.at hy;have hC:=e6.at hA;have h4:ei.length < sizeLine:=eU %[0|8];have bS:Ext H2 (upd H6 r3 (.lst (ei++[.ref m6]))):=(hv.trans e6).put hp
  have en:(upd H6 r3 (.lst (ei++[.ref m6]))) x3=some (.tup [.str (wrd b),.ref r3]):=by
   rw [ah (λ z=>by rw [z,hC] at el;cases el)];exact el
  clear h3 hy hA hv el h6;ac_rfl;generalize upd H6 r3 (.lst (ei++[.ref m6]))=H7 at bS en ⊢;have hD:=bS.2 K a _ gW;have b4:=v1.ext bS;have et:=v2.ext bS;have c8:=bS.at cT;have b1:=bS.at d5;have de:=bS.at d6;obtain⟨W,hW⟩:∃ W,wrd b=W:=⟨_,rfl⟩;rw [hW] at en;exists hW;clear hC h4 hp gW cT d5 d6 h2 e6 v1 v2;rw [vf];refine⟨rfl,hD,hl,room,f1,_,b4,a9,fa,fo,lo1,g7,λ y1 H8 e8 u1=>?_⟩;rw [hT ()] at u1;ac_rfl;rw [vf];refine⟨rfl,e8.2 K a _ hD,hl,room,f2,_,et.ext e8,ea,fa,fo,g8,hc,λ y2 H9 e9 u2=>?_⟩;rw [hX ()] at u2;have hE:=e8.trans e9;have ew:=u1.ext e9;clear u1 e8 e9;ac_rfl;rw [iT];refine⟨_,_,_,_,_,ms,ew,u2,jj a9,jj ea,gS () _ (bt ()),gS () _ (eb ()),d7,hh (),λ i2 i3 hF hI aS=>?_⟩;rw [fx (),hg (),QE,hj ()] at aS;obtain⟨b',i4,iv,ey,_,_,hJ,_⟩:=iK h8 aS;have dr:=p8 (hb ()) hJ;rw [dr,hW ()] at ey;have a4:=hE.trans hF;have b5:=a4.at en;exists aS;clear hI hJ dr ew u2 hE hF en;ac_rfl;rw [jx];refine⟨ms,ws,rs,a4.at c8,a4.at b1,a4.at de,hsz (),c6,c7,a5 (),aS (),λ i5 f5=>?_⟩;have dy:=a4.trans f5;have b6:=f5.at b5;have b2:=b4.ext dy;clear aS ey b5 a4 f5;ac_rfl;rw [iT];refine⟨room,f1,f1,_,_,ms,b2,b2,a9,a9,bt (),bt (),d7,eg (),λ h5 h7 f6 hK a6=>?_⟩;rw [a7 ()] at a6;obtain⟨i7,h9,ix,dz,_,_,ez,d0⟩:=iK h8 a6;have f7:=zT (a5 ()) ez;obtain⟨hL,hM,eB,_⟩:=d0 f7;rw [f7] at dz;have f9:h7 h5=some (.tup [.str "loops",.ref h9]):=dz;have d1:=dy.trans f6;have b7:=f6.at b6;have gs:=d1.at c8;exists eB;clear hK a6 ez d0 f7 dz b6 dy f6 b2;ac_rfl;rw [zy];refine⟨ms.length,hL,rfl,h8,hM,eB (),λ jz gx=>?_⟩;have cf:=d1.trans gx;have cm:=gx.at b7;have d2:=b4.ext cf;have d3:=et.ext cf;clear f9 gs b7 d1 gx hM;ac_rfl;rw [iT];refine⟨room,f1,f2,_,_,ms,d2,d3,a9,ea,bt (),eb (),d7,eg (),λ j0 j1 gy hN aX=>?_⟩;rw [a7 (),c5 ()] at aX;obtain⟨j2,j3,iz,eH,_,_,eM,_⟩:=iK h8 aX;have dr:=p8 (hb ()) eM;rw [dr,hW ()] at eH;have a8:=cf.trans gy;have ep:=gy.at cm;exists aX;clear hN eM dr cf gy cm d2 d3;ac_rfl;rw [jx];refine⟨ms,ws,rs,a8.at c8,a8.at b1,a8.at de,hsz (),c6,c7,a5 (),aX (),λ j4 hO=>?_⟩;have e0:=a8.trans hO;have d4:=b4.ext e0;obtain⟨dx,D,hP,_⟩:=d4.ob;have fc:=vn room f1 D (m := "cells") nofun;clear aX eH ep a8 hO;ac_rfl;rw [dI];refine⟨room,f1,_,d4,a9,λ _ j5 ih hQ il ip=>?_,by rw [bt ()];omega⟩;rw [a7 ()] at ip;have hR:=(e0.trans il).at b1;have k':=kk () ih;clear kk hQ hP fc;ac_rfl
end
def Qc{l:W.OpenLaw}{w:World}{K:W.Frag}{h:Heap}{mg:Str->Option Value}{fa:Addr}(X:K.In h)(G:h.Ns mainGlobals mg)(q3:mg "law"=some (.ref fa))
  {C0:Addr} (y0:W.nsIn K mainGlobals "PaceError"=some (some (.ref C0)))
  {C1:Addr} (y1:W.nsIn K mainGlobals "NoPlace"=some (some (.ref C1)))
  {C2:Addr} (y2:W.nsIn K mainGlobals "NoCells"=some (some (.ref C2)))
  {C3:Addr} (y3:W.nsIn K mainGlobals "NoView"=some (some (.ref C3)))
  {C4:Addr} (y4:W.nsIn K mainGlobals "NoCount"=some (some (.ref C4)))
  {C5:Addr} (y5:W.nsIn K mainGlobals "NoPair"=some (some (.ref C5)))
  {C6:Addr} (y6:W.nsIn K mainGlobals "NoOrder"=some (some (.ref C6)))
  {C7:Addr} (y7:W.nsIn K mainGlobals "TooMany"=some (some (.ref C7)))
  {C8:Addr} (y8:W.nsIn K mainGlobals "Twice"=some (some (.ref C8)))
  {C9:Addr} (y9:W.nsIn K mainGlobals "View"=some (some (.ref C9)))
  {b1:Addr} (q4:W.nsIn K mainGlobals "Store"=some (some (.ref b1)))
  {f0:Addr} {d0:FuncData} (F0:Fun K "__init__" "TooMany.__init__" eA f0 d0)
  {f1:Addr} {d1:FuncData} (F1:Fun K "__init__" "Twice.__init__" fQ f1 d1)
  {f2:Addr} {d2:FuncData} (a2:W.nsIn K mainGlobals "is_whole"=some (some (.ref f2))) (F2:Fun K "is_whole" "is_whole" jm f2 d2)
  {f3:Addr} {d3:FuncData} (a3:W.nsIn K mainGlobals "count_of"=some (some (.ref f3))) (F3:Fun K "count_of" "count_of" jn f3 d3)
  {f4:Addr} {d4:FuncData} (a4:W.nsIn K mainGlobals "paces_of"=some (some (.ref f4))) (F4:Fun K "paces_of" "paces_of" jl f4 d4)
  {f5:Addr} {d5:FuncData} (a5:W.nsIn K mainGlobals "is_number_below"=some (some (.ref f5))) (F5:Fun K "is_number_below" "is_number_below" cW f5 d5)
  {f6:Addr} {d6:FuncData} (a6:W.nsIn K mainGlobals "is_place"=some (some (.ref f6))) (F6:Fun K "is_place" "is_place" gC f6 d6)
  {f7:Addr} {d7:FuncData} (a7:W.nsIn K mainGlobals "split_number"=some (some (.ref f7))) (F7:Fun K "split_number" "split_number" eF f7 d7)
  {f8:Addr} {d8:FuncData} (a8:W.nsIn K mainGlobals "place_at"=some (some (.ref f8))) (F8:Fun K "place_at" "place_at" jk f8 d8)
  {f9:Addr} {d9:FuncData} (a9:W.nsIn K mainGlobals "refuse_long"=some (some (.ref f9))) (F9:Fun K "refuse_long" "refuse_long" fF f9 d9)
  {hC:Addr} {q5:FuncData} (q6:W.nsIn K mainGlobals "places"=some (some (.ref hC))) (k8:Fun K "places" "places" jV hC q5)
  {hD:Addr} {q7:FuncData} (q8:W.nsIn K mainGlobals "is_within"=some (some (.ref hD))) (la:Fun K "is_within" "is_within" hV hD q7)
  {hE:Addr} {q9:FuncData} (ra:W.nsIn K mainGlobals "is_size"=some (some (.ref hE))) (lb:Fun K "is_size" "is_size" kL hE q9)
  {hF:Addr} {rb:FuncData} (ri:W.nsIn K mainGlobals "is_axis"=some (some (.ref hF))) (lk:Fun K "is_axis" "is_axis" kO hF rb)
  {hI:Addr} {rj:FuncData} (ro:W.nsIn K mainGlobals "are_axes"=some (some (.ref hI))) (lr:Fun K "are_axes" "are_axes" gD hI rj)
  {hJ:Addr} {rr:FuncData} (ru:W.nsIn K mainGlobals "kept_axis"=some (some (.ref hJ))) (lx:Fun K "kept_axis" "kept_axis" hU hJ rr)
  {g0:Addr} {rv:FuncData} (ly:Fun K "__init__" "View.__init__" cM g0 rv)
  {g4:Addr} {rx:FuncData} (hK:Fun K "sizes" "View.sizes" ef g4 rx)
  {g5:Addr} {ry:FuncData} (hL:Fun K "paces" "View.paces" eh g5 ry)
  {g6:Addr} {rz:FuncData} (hM:Fun K "count" "View.count" gj g6 rz)
  {g7:Addr} {r3:FuncData} (hN:Fun K "cell" "View.cell" fz g7 r3)
  {g8:Addr} {r4:FuncData} (hO:Fun K "cells" "View.cells" gk g8 r4)
  {hb:Addr} {r5:FuncData} (hP:Fun K "least" "View.least" ek hb r5)
  {hc:Addr} {r6:FuncData} (hQ:Fun K "greatest" "View.greatest" cL hc r6)
  {hR:Addr} {r7:FuncData} (r8:W.nsIn K mainGlobals "widened"=some (some (.ref hR))) (lz:Fun K "widened" "widened" iL hR r7)
  {l0:Addr} {l1:Value} {l2:Option Addr} {l3:Nat} {l5:Array (Option Value)}
  {hg:Addr} {l6 l7:Option Addr} {l8:Array (Option Value)} {mc mn mu mv hs m1:Value}
  (r9:W.nsIn K mainGlobals "whole"=some (some (.ref hg))) (sb:K.lookup hg=some ⟨mc,l6,.func (W.fnOf "whole" "whole" (eD jg) (di jg) (aa jg) (.ref l0) mn mu mv l7 hs m1),l8⟩)
  (m2:K.lookup l0=some ⟨l1,l2,.seq #[Value.none] l3,l5⟩)
  (sd:W.codeIn K hs "whole"=true) (se:W.keepIn K (.ref hg)=true)
  {hS:Addr} {sg:FuncData} (sh:W.nsIn K mainGlobals "has_twice"=some (some (.ref hS))) (m6:Fun K "has_twice" "has_twice" hZ hS sg)
  {hT:Addr} {so:FuncData} (s6:W.nsIn K mainGlobals "refuse_rooms"=some (some (.ref hT))) (m8:Fun K "refuse_rooms" "refuse_rooms" eI hT so)
  {hW:Addr} {s7:FuncData} (s8:W.nsIn K mainGlobals "is_loop"=some (some (.ref hW))) (nf:Fun K "is_loop" "is_loop" kM hW s7)
  {hX:Addr} {s9:FuncData} (tp:W.nsIn K mainGlobals "is_order"=some (some (.ref hX))) (ni:Fun K "is_order" "is_order" fe hX s9)
  {hY:Addr} {tq:FuncData} (tr:W.nsIn K mainGlobals "refuse_order"=some (some (.ref hY))) (nj:Fun K "refuse_order" "refuse_order" eJ hY tq)
  {h3:Addr} {tD:FuncData} (t2:W.nsIn K mainGlobals "refuse_sizes_unlike"=some (some (.ref h3))) (nq:Fun K "refuse_sizes_unlike" "refuse_sizes_unlike" bN h3 tD)
  {h4:Addr} {t4:FuncData} (t8:W.nsIn K mainGlobals "place_by_steps"=some (some (.ref h4))) (nt:Fun K "place_by_steps" "place_by_steps" dk h4 t4)
  {h5:Addr} {t9:FuncData} (uq:W.nsIn K mainGlobals "walk_of"=some (some (.ref h5))) (nD:Fun K "walk_of" "walk_of" gc h5 t9)
  {h6:Addr} {u0:FuncData} (u2:W.nsIn K mainGlobals "looped"=some (some (.ref h6))) (nT:Fun K "looped" "looped" oG h6 u0)
  {h7:Addr} {vo:FuncData} (vr:W.nsIn K mainGlobals "refuse_twice"=some (some (.ref h7))) (n0:Fun K "refuse_twice" "refuse_twice" eG h7 vo)
  {h8:Addr} {vu:FuncData} (vv:W.nsIn K mainGlobals "places_written_anew"=some (some (.ref h8))) (n1:Fun K "places_written_anew" "places_written_anew" bO h8 vu)
  {h9:Addr} {vx:FuncData} (v3:W.nsIn K mainGlobals "bound_pairs"=some (some (.ref h9))) (n2:Fun K "bound_pairs" "bound_pairs" fG h9 vx)
  {ih:Addr} {v5:FuncData} (v7:W.nsIn K mainGlobals "gap"=some (some (.ref ih))) (n3:Fun K "gap" "gap" FW ih v5)
  {il:Addr} {v8:FuncData} (wc:W.nsIn K mainGlobals "helpful_loop"=some (some (.ref il))) (n4:Fun K "helpful_loop" "helpful_loop" cY il v8)
  {ip:Addr} {wh:FuncData} (wi:W.nsIn K mainGlobals "barring_pairs"=some (some (.ref ip))) (n5:Fun K "barring_pairs" "barring_pairs" bM ip wh)
  {iv:Addr} {wk:FuncData} (wo:W.nsIn K mainGlobals "loop_order"=some (some (.ref iv))) (n6:Fun K "loop_order" "loop_order" cC iv wk)
  {ix:Addr} {wy:FuncData} (w7:W.nsIn K mainGlobals "refuse_count"=some (some (.ref ix))) (n7:Fun K "refuse_count" "refuse_count" eK ix wy)
  {hh:Addr} {w8:FuncData} (n8:Fun K "__init__" "Store.__init__" dm hh w8)
  {hj:Addr} {w9:FuncData} (iz:Fun K "all_values" "Store.all_values" cN hj w9)
  {hk:Addr} {x1:FuncData} (i0:Fun K "refuse_room" "Store.refuse_room" cv hk x1)
  {ho:Addr} {x2:FuncData} (i1:Fun K "read" "Store.read" eo ho x2)
  {hp:Addr} {x3:FuncData} (i2:Fun K "put" "Store.put" ic hp x3)
  {hq:Addr} {x4:FuncData} (i3:Fun K "copied" "Store.copied" eL hq x4)
  {i4:Addr} {x6:FuncData} (x7:W.nsIn K mainGlobals "_law_draw"=some (some (.ref i4))) (oj:Fun K "_law_draw" "_law_draw" ib i4 x6)
  {i5:Addr} {x9:FuncData} (za:W.nsIn K mainGlobals "_law_whole"=some (some (.ref i5))) (oo:Fun K "_law_whole" "_law_whole" gf i5 x9)
  {i7:Addr} {zb:FuncData} (zi:W.nsIn K mainGlobals "_law_digits"=some (some (.ref i7))) (oD:Fun K "_law_digits" "_law_digits" fJ i7 zb)
  {jz:Addr} {zj:FuncData} (zl:W.nsIn K mainGlobals "_law_sizes"=some (some (.ref jz))) (oL:Fun K "_law_sizes" "_law_sizes" gg jz zj)
  {j0:Addr} {zm:FuncData} (A1:W.nsIn K mainGlobals "_law_once"=some (some (.ref j0))) (o1:Fun K "_law_once" "_law_once" ia j0 zm)
  {j1:Addr} {A2:FuncData} (CS:W.nsIn K mainGlobals "_law_others"=some (some (.ref j1))) (o2:Fun K "_law_others" "_law_others" dw j1 A2)
  {j2:Addr} {CV:FuncData} (D1:W.nsIn K mainGlobals "_law_least"=some (some (.ref j2))) (o3:Fun K "_law_least" "_law_least" ed j2 CV)
  {j3:Addr} {D2:FuncData} (D3:W.nsIn K mainGlobals "_law_most"=some (some (.ref j3))) (o4:Fun K "_law_most" "_law_most" fw j3 D2)
  {j4:Addr} {D5:FuncData} (D6:W.nsIn K mainGlobals "_law_cells"=some (some (.ref j4))) (o5:Fun K "_law_cells" "_law_cells" ee j4 D5)
  {j5:Addr} {D7:FuncData} (G1:W.nsIn K mainGlobals "_law_two"=some (some (.ref j5))) (o6:Fun K "_law_two" "_law_two" jo j5 D7)
  {j7:Addr} {G2:FuncData} (G3:W.nsIn K mainGlobals "_law_far"=some (some (.ref j7))) (o7:Fun K "_law_far" "_law_far" gE j7 G2)
  {kc:Addr} {G4:FuncData} (G5:W.nsIn K mainGlobals "_law_places"=some (some (.ref kc))) (pa:Fun K "_law_places" "_law_places" dv kc G4)
  {kk:Addr} {G6:FuncData} (G7:W.nsIn K mainGlobals "_law_pairs"=some (some (.ref kk))) (pz:Fun K "_law_pairs" "_law_pairs" gh kk G6)
  {kq:Addr} {G8:FuncData} (HT:W.nsIn K mainGlobals "_law_walk"=some (some (.ref kq))) (p0:Fun K "_law_walk" "_law_walk" ft kq G8)
  {kv:Addr} {H0:FuncData} (H3:W.nsIn K mainGlobals "_law_number"=some (some (.ref kv))) (p1:Fun K "_law_number" "_law_number" fH kv H0)
  {kx:Addr} {H4:FuncData} (H5:W.nsIn K mainGlobals "_law_keeps"=some (some (.ref kx))) (p3:Fun K "_law_keeps" "_law_keeps" gi kx H4)
  {ky:Addr} {H6:FuncData} (H7:W.nsIn K mainGlobals "_law_is_order"=some (some (.ref ky))) (qa:Fun K "_law_is_order" "_law_is_order" cK ky H6)
  {kE:Addr} {H8:FuncData} (H9:W.nsIn K mainGlobals "_law_is_bar"=some (some (.ref kE))) (qb:Fun K "_law_is_bar" "_law_is_bar" dA kE H8)
  {kQ:Addr} {IY:FuncData} (I1:W.nsIn K mainGlobals "_law_left_alike"=some (some (.ref kQ))) (qc:Fun K "_law_left_alike" "_law_left_alike" bV kQ IY)
  {kT:Addr} {I2:FuncData} (I3:W.nsIn K mainGlobals "_law_right"=some (some (.ref kT))) (qn:Fun K "_law_right" "_law_right" dZ kT I2)
  {k4:Addr} {qq ht:Option Addr} {qs:Array (Option Value)} {q0 hu hv hy fy hA:Value}
  (q1:W.nsIn K mainGlobals "law"=some (some (.ref k4))) (I4:K.lookup k4=some ⟨q0,qq,.func (W.fnOf "law" "law" (eD nJ) (di nJ) (aa nJ) .none hu hv hy ht fy hA),qs⟩)
  (I5:W.codeIn K fy "law"=true) (I6:W.keepIn K (.ref k4)=true)
  (hB:W.findIn K (.ref C7) "__init__"=some (some (.ref f0)))
  (eH:yq K C7 f0 [.type "ValueError",.type "Exception",.type "BaseException",.type "object"] "ValueError.__new__"=true)
  (eM:W.typeIn K (.ref f0)=some (.type "function"))
  (e0:sW K C7=true)
  (e1:W.findIn K (.ref C7) "__setattr__"=some (some (.builtin "object.__setattr__")))
  (e2:W.hasDictIn K C7=true)
  (b2:W.takerIn K C7 "number"=some none)
  (b3:W.findIn K (.ref C7) "number"=some none)
  (eg:W.specialIn K (.ref C0) "__getattribute__"=some (some (.builtin "type.__getattribute__")))
  (ei:W.readsIn K C0 (.type "type")=true)
  (ej:W.findCls K (.ref C0) (.type "type") "__init__"=some (.val (.builtin "ValueError.__init__")))
  (k7:W.findIn K (.ref C8) "__init__"=some (some (.ref f1)))
  (e3:yq K C8 f1 [.type "ValueError",.type "Exception",.type "BaseException",.type "object"] "ValueError.__new__"=true)
  (e4:W.typeIn K (.ref f1)=some (.type "function"))
  (e5:sW K C8=true)
  (e6:W.findIn K (.ref C8) "__setattr__"=some (some (.builtin "object.__setattr__")))
  (e7:W.hasDictIn K C8=true)
  (el:W.takerIn K C8 "one"=some none)
  (en:W.findIn K (.ref C8) "one"=some none)
  (c0:W.takerIn K C8 "other"=some none)
  (c1:W.findIn K (.ref C8) "other"=some none)
  (gs:W.plainGet K C9 Str.empty=true)
  (gx:W.hasDictIn K C9=true)
  (gy:W.plainOver K C9=true)
  (gB:W.findIn K (.ref C9) "__setattr__"=some (some (.builtin "object.__setattr__")))
  (ep:W.findIn K (.ref C9) "axes"=some none)
  (c3:W.findIn K (.ref C9) "first"=some none)
  (et:W.findIn K (.ref C9) "room"=some none)
  (b6:W.findIn K (.ref C9) "__init__"=some (some (.ref g0)))
  (b7:W.isFn K (.ref g0)=true)
  (gS:W.makesIn K C9=true)
  (gW:W.keepIn K (.ref C9)=true)
  (c4:W.findIn K (.ref C9) "sizes"=some (some (.ref g4)))
  (c5:W.isFn K (.ref g4)=true)
  (c6:W.findIn K (.ref C9) "paces"=some (some (.ref g5)))
  (c7:W.isFn K (.ref g5)=true)
  (c8:W.findIn K (.ref C9) "count"=some (some (.ref g6)))
  (de:W.isFn K (.ref g6)=true)
  (ew:W.findIn K (.ref C9) "cell"=some (some (.ref g7)))
  (ey:W.isFn K (.ref g7)=true)
  (dr:W.findIn K (.ref C9) "cells"=some (some (.ref g8)))
  (dy:W.isFn K (.ref g8)=true)
  (dz:W.findIn K (.ref C9) "least"=some (some (.ref hb)))
  (ea:W.isFn K (.ref hb)=true)
  (cf:W.findIn K (.ref C9) "greatest"=some (some (.ref hc)))
  (cm:W.isFn K (.ref hc)=true)
  (e8:W.plainGet K b1 Str.empty=true)
  (e9:W.hasDictIn K b1=true)
  (fo:W.plainOver K b1=true)
  (fu:W.findIn K (.ref b1) "__setattr__"=some (some (.builtin "object.__setattr__")))
  (c2:W.findIn K (.ref b1) "floor"=some none)
  (b4:W.findIn K (.ref b1) "__init__"=some (some (.ref hh)))
  (b5:W.isFn K (.ref hh)=true)
  (fv:W.makesIn K b1=true)
  (fx:W.keepIn K (.ref b1)=true)
  (bt:W.findIn K (.ref b1) "all_values"=some (some (.ref hj)))
  (bS:W.isFn K (.ref hj)=true)
  (aS:W.findIn K (.ref b1) "refuse_room"=some (some (.ref hk)))
  (aX:W.isFn K (.ref hk)=true)
  (eb:W.findIn K (.ref b1) "read"=some (some (.ref ho)))
  (ec:W.isFn K (.ref ho)=true)
  (ez:W.findIn K (.ref b1) "put"=some (some (.ref hp)))
  (eB:W.isFn K (.ref hp)=true)
  (cS:W.findIn K (.ref b1) "copied"=some (some (.ref hq)))
  (cT:W.isFn K (.ref hq)=true)
  {I7:Tok} (w0:W.nsIn K mainGlobals "MOST_TOLD"=some (some (.int 4096 I7)))
  {I8:Tok} (w1:W.nsIn K mainGlobals "MOST_ROOM"=some (some (.int 1000000000000000000 I8)))
  {I9:Tok} (w2:W.nsIn K mainGlobals "MOST_SIZE"=some (some (.int 1000000000 I9)))
  {KX:Tok} (w3:W.nsIn K mainGlobals "MOST_AXES"=some (some (.int 8 KX)))
  (z0:W.nsIn K mainGlobals "ValueError"=some none)
  (z1:W.nsIn K mainGlobals "all"=some none)
  (z2:W.nsIn K mainGlobals "bool"=some none)
  (z3:W.nsIn K mainGlobals "enumerate"=some none)
  (z4:W.nsIn K mainGlobals "int"=some none)
  (z5:W.nsIn K mainGlobals "isinstance"=some none)
  (z6:W.nsIn K mainGlobals "len"=some none)
  (z7:W.nsIn K mainGlobals "list"=some none)
  (z8:W.nsIn K mainGlobals "max"=some none)
  (z9:W.nsIn K mainGlobals "min"=some none)
  (L2:W.nsIn K mainGlobals "range"=some none)
  (N0:W.nsIn K mainGlobals "reversed"=some none)
  (N1:W.nsIn K mainGlobals "set"=some none)
  (PH:W.nsIn K mainGlobals "sorted"=some none)
  (Sn:W.nsIn K mainGlobals "sum"=some none)
  (S1:W.nsIn K mainGlobals "tuple"=some none)
  (S2:W.nsIn K mainGlobals "zip"=some none)
  : ∃ fd:FuncData,(∀ (s:Shared) (v:Value),BindsTo s fd ⟨[v],[]⟩ [("_law_script",v)])/\∀ base:Heap,K.In base->base.Ns mainGlobals mg->bj l.prog w K mg base CX0 11 fa fd ["_law_script"] (xx K):=by
 have e:=q3.symm.trans (Ra X G q1);cases e;have Va:=Jy (st:=jg) sb sd se;have q2:=MK (st:=nJ) I4 I5 I6;have T:Tx K mg ⟨C0,C1,C2,C3,C4,C5,C6,C7,C8,C9,b1,f0,_,f1,_,f2,_,f3,_,f4,_,f5,_,f6,_,f7,_,f8,_,f9,_,hC,_,hD,_,hE,_,hF,_,hI,_,hJ,_,g0,_,g4,_,g5,_,g6,_,g7,_,g8,_,hb,_,hc,_,hR,_,hg,_,hS,_,hT,_,hW,_,hX,_,hY,_,h3,_,h4,_,h5,_,h6,_,h7,_,h8,_,h9,_,ih,_,il,_,ip,_,iv,_,ix,_,hh,_,hj,_,hk,_,ho,_,hp,_,hq,_,i4,_,i5,_,i7,_,jz,_,j0,_,j1,_,j2,_,j3,_,j4,_,j5,_,j7,_,kc,_,kk,_,kq,_,kv,_,kx,_,ky,_,kE,_,kQ,_,kT,_,fa,_⟩:=⟨Ra X G y0,Ra X G y1,Ra X G y2,Ra X G y3,Ra X G y4,Ra X G y5,Ra X G y6,Ra X G y7,Ra X G y8,Ra X G y9,Ra X G q4,⟨_,Ra X G w0⟩,⟨_,Ra X G w1⟩,⟨_,Ra X G w2⟩,⟨_,Ra X G w3⟩,⟨eH,eM,⟨e0,e1,e2⟩⟩,b2,b3,⟨eg,ei,ej⟩,⟨e3,e4,⟨e5,e6,e7⟩⟩,el,en,c0,c1,⟨gs,gx,gy,gB⟩,ep,c3,et,⟨gS,b6,b7,gW⟩,⟨c4,c5,hK.kp⟩,⟨c6,c7,hL.kp⟩,⟨c8,de,hM.kp⟩,⟨ew,ey,hN.kp⟩,⟨dr,dy,hO.kp⟩,⟨dz,ea,hP.kp⟩,⟨cf,cm,hQ.kp⟩,⟨e8,e9,fo,fu⟩,c2,⟨fv,b4,b5,fx⟩,⟨bt,bS,iz.kp⟩,⟨aS,aX,i0.kp⟩,⟨eb,ec,i1.kp⟩,⟨ez,eB,i2.kp⟩,⟨cS,cT,i3.kp⟩,F0,F0.binds (ps:=["self", "number"]) (λ _ _ _ _ _ _=>gP (λ _ _=>rfl)),F1,F1.binds (ps:=["self", "one", "other"]) (λ _ _ _ _ _ _=>uv (λ _ _ _=>rfl)),F2,Ra X G a2,F2.binds (ps:=["thing"]) (λ _ _ _ _ _ _=>lV (λ _=>rfl)),F3,Ra X G a3,F3.binds (ps:=["sizes"]) (λ _ _ _ _ _ _=>lV (λ _=>rfl)),F4,Ra X G a4,F4.binds (ps:=["sizes"]) (λ _ _ _ _ _ _=>lV (λ _=>rfl)),F5,Ra X G a5,F5.binds (ps:=["thing", "bound"]) (λ _ _ _ _ _ _=>gP (λ _ _=>rfl)),F6,Ra X G a6,F6.binds (ps:=["sizes", "thing"]) (λ _ _ _ _ _ _=>gP (λ _ _=>rfl)),F7,Ra X G a7,F7.binds (ps:=["sizes", "number"]) (λ _ _ _ _ _ _=>gP (λ _ _=>rfl)),F8,Ra X G a8,F8.binds (ps:=["sizes", "number"]) (λ _ _ _ _ _ _=>gP (λ _ _=>rfl)),F9,Ra X G a9,F9.binds (ps:=["count"]) (λ _ _ _ _ _ _=>lV (λ _=>rfl)),k8,Ra X G q6,k8.binds (ps:=["sizes"]) (λ _ _ _ _ _ _=>lV (λ _=>rfl)),la,Ra X G q8,la.binds (ps:=["thing", "low", "high"]) (λ _ _ _ _ _ _=>uv (λ _ _ _=>rfl)),lb,Ra X G ra,lb.binds (ps:=["thing"]) (λ _ _ _ _ _ _=>lV (λ _=>rfl)),lk,Ra X G ri,lk.binds (ps:=["thing"]) (λ _ _ _ _ _ _=>lV (λ _=>rfl)),lr,Ra X G ro,lr.binds (ps:=["thing"]) (λ _ _ _ _ _ _=>lV (λ _=>rfl)),lx,Ra X G ru,lx.binds (ps:=["axis"]) (λ _ _ _ _ _ _=>lV (λ _=>rfl)),ly,ly.binds (ps:=["self", "room", "first", "axes"]) (λ _ _ _ _ _ _=>M8 (λ _ _ _ _=>rfl)),hK,hK.binds (ps:=["self"]) (λ _ _ _ _ _ _=>lV (λ _=>rfl)),hL,hL.binds (ps:=["self"]) (λ _ _ _ _ _ _=>lV (λ _=>rfl)),hM,hM.binds (ps:=["self"]) (λ _ _ _ _ _ _=>lV (λ _=>rfl)),hN,hN.binds (ps:=["self", "place"]) (λ _ _ _ _ _ _=>gP (λ _ _=>rfl)),hO,hO.binds (ps:=["self"]) (λ _ _ _ _ _ _=>lV (λ _=>rfl)),hP,hP.binds (ps:=["self"]) (λ _ _ _ _ _ _=>lV (λ _=>rfl)),hQ,hQ.binds (ps:=["self"]) (λ _ _ _ _ _ _=>lV (λ _=>rfl)),lz,Ra X G r8,lz.binds (ps:=["cells", "size", "pace"]) (λ _ _ _ _ _ _=>uv (λ _ _ _=>rfl)),Va,Ra X G r9,(λ s us k6 hl=>match us,(show us.length=2 by simp only [QX,Rr,Um] at hl;omega) with|[_,_],_=>BindsTo.of_defaults rfl (k6 _ _ m2) rfl rfl rfl),(λ s us k6 hl=>match us,(show us.length=1 by simp only [QX,Rr,Um] at hl;omega) with|[_],_=>BindsTo.of_defaults rfl (k6 _ _ m2) rfl rfl rfl),m6,Ra X G sh,m6.binds (ps:=["view"]) (λ _ _ _ _ _ _=>lV (λ _=>rfl)),m8,Ra X G s6,m8.binds (ps:=["one", "other"]) (λ _ _ _ _ _ _=>gP (λ _ _=>rfl)),nf,Ra X G s8,nf.binds (ps:=["thing", "many"]) (λ _ _ _ _ _ _=>gP (λ _ _=>rfl)),ni,Ra X G tp,ni.binds (ps:=["sizes", "thing"]) (λ _ _ _ _ _ _=>gP (λ _ _=>rfl)),nj,Ra X G tr,nj.binds (ps:=["sizes", "order"]) (λ _ _ _ _ _ _=>gP (λ _ _=>rfl)),nq,Ra X G t2,nq.binds (ps:=["to", "source"]) (λ _ _ _ _ _ _=>gP (λ _ _=>rfl)),nt,Ra X G t8,nt.binds (ps:=["sizes", "order", "steps"]) (λ _ _ _ _ _ _=>uv (λ _ _ _=>rfl)),nD,Ra X G uq,nD.binds (ps:=["sizes", "order"]) (λ _ _ _ _ _ _=>gP (λ _ _=>rfl)),nT,Ra X G u2,nT.binds (ps:=["store", "to", "source", "order"]) (λ _ _ _ _ _ _=>M8 (λ _ _ _ _=>rfl)),n0,Ra X G vr,n0.binds (ps:=["view"]) (λ _ _ _ _ _ _=>lV (λ _=>rfl)),n1,Ra X G vv,n1.binds (ps:=["to", "source", "spots"]) (λ _ _ _ _ _ _=>uv (λ _ _ _=>rfl)),n2,Ra X G v3,n2.binds (ps:=["to", "source"]) (λ _ _ _ _ _ _=>gP (λ _ _=>rfl)),n3,Ra X G v7,n3.binds (ps:=["pair", "axis"]) (λ _ _ _ _ _ _=>gP (λ _ _=>rfl)),n4,Ra X G wc,n4.binds (ps:=["pairs", "many"]) (λ _ _ _ _ _ _=>gP (λ _ _=>rfl)),n5,Ra X G wi,n5.binds (ps:=["pairs", "many"]) (λ _ _ _ _ _ _=>gP (λ _ _=>rfl)),n6,Ra X G wo,n6.binds (ps:=["to", "source"]) (λ _ _ _ _ _ _=>gP (λ _ _=>rfl)),n7,Ra X G w7,n7.binds (ps:=["view", "many"]) (λ _ _ _ _ _ _=>gP (λ _ _=>rfl)),n8,n8.binds (ps:=["self", "values"]) (λ _ _ _ _ _ _=>gP (λ _ _=>rfl)),iz,iz.binds (ps:=["self"]) (λ _ _ _ _ _ _=>lV (λ _=>rfl)),i0,i0.binds (ps:=["self", "view"]) (λ _ _ _ _ _ _=>gP (λ _ _=>rfl)),i1,i1.binds (ps:=["self", "view"]) (λ _ _ _ _ _ _=>gP (λ _ _=>rfl)),i2,i2.binds (ps:=["self", "view", "values"]) (λ _ _ _ _ _ _=>uv (λ _ _ _=>rfl)),i3,i3.binds (ps:=["self", "to", "source"]) (λ _ _ _ _ _ _=>uv (λ _ _ _=>rfl)),oj,Ra X G x7,oj.binds (ps:=["_law_script", "_law_k", "_law_many"]) (λ _ _ _ _ _ _=>uv (λ _ _ _=>rfl)),oo,Ra X G za,oo.binds (ps:=["_law_found"]) (λ _ _ _ _ _ _=>lV (λ _=>rfl)),oD,Ra X G zi,oD.binds (ps:=["_law_number_here", "_law_by", "_law_many"]) (λ _ _ _ _ _ _=>uv (λ _ _ _=>rfl)),oL,Ra X G zl,oL.binds (ps:=["_law_script", "_law_most_here", "_law_wide"]) (λ _ _ _ _ _ _=>uv (λ _ _ _=>rfl)),o1,Ra X G A1,o1.binds (ps:=["_law_script", "_law_sizes_here"]) (λ _ _ _ _ _ _=>gP (λ _ _=>rfl)),o2,Ra X G CS,o2.binds (ps:=["_law_script", "_law_paces"]) (λ _ _ _ _ _ _=>gP (λ _ _=>rfl)),o3,Ra X G D1,o3.binds (ps:=["_law_sizes_here", "_law_paces"]) (λ _ _ _ _ _ _=>gP (λ _ _=>rfl)),o4,Ra X G D3,o4.binds (ps:=["_law_sizes_here", "_law_paces"]) (λ _ _ _ _ _ _=>gP (λ _ _=>rfl)),o5,Ra X G D6,o5.binds (ps:=["_law_first", "_law_sizes_here", "_law_paces"]) (λ _ _ _ _ _ _=>uv (λ _ _ _=>rfl)),o6,Ra X G G1,o6.binds (ps:=["_law_script", "_law_sizes_here"]) (λ _ _ _ _ _ _=>gP (λ _ _=>rfl)),o7,Ra X G G3,o7.binds (ps:=["_law_script", "_law_view"]) (λ _ _ _ _ _ _=>gP (λ _ _=>rfl)),pa,Ra X G G5,pa.binds (ps:=["_law_sizes_here"]) (λ _ _ _ _ _ _=>lV (λ _=>rfl)),pz,Ra X G G7,pz.binds (ps:=["_law_writes", "_law_reads"]) (λ _ _ _ _ _ _=>gP (λ _ _=>rfl)),p0,Ra X G HT,p0.binds (ps:=["_law_sizes_here", "_law_order"]) (λ _ _ _ _ _ _=>gP (λ _ _=>rfl)),p1,Ra X G H3,p1.binds (ps:=["_law_sizes_here", "_law_place"]) (λ _ _ _ _ _ _=>gP (λ _ _=>rfl)),p3,Ra X G H5,p3.binds (ps:=["_law_sizes_here", "_law_order", "_law_writes", "_law_reads"]) (λ _ _ _ _ _ _=>M8 (λ _ _ _ _=>rfl)),qa,Ra X G H7,qa.binds (ps:=["_law_order", "_law_axes"]) (λ _ _ _ _ _ _=>gP (λ _ _=>rfl)),qb,Ra X G H9,qb.binds (ps:=["_law_told", "_law_due", "_law_axes"]) (λ _ _ _ _ _ _=>uv (λ _ _ _=>rfl)),qc,Ra X G I1,qc.binds (ps:=["_law_one", "_law_other", "_law_order"]) (λ _ _ _ _ _ _=>uv (λ _ _ _=>rfl)),qn,Ra X G I3,qn.binds (ps:=["_law_told", "_law_sizes_here", "_law_writes", "_law_reads"]) (λ _ _ _ _ _ _=>M8 (λ _ _ _ _=>rfl)),q2,Ra X G q1,q2.binds (ps:=["_law_script"]) (λ _ _ _ _ _ _=>lV (λ _=>rfl)),RO X G z0,RO X G z1,RO X G z2,RO X G z3,RO X G z4,RO X G z5,RO X G z6,RO X G z7,RO X G z8,RO X G z9,RO X G L2,RO X G N0,RO X G N1,RO X G PH,RO X G Sn,RO X G S1,RO X G S2⟩;exact⟨W.fnOf "law" "law" (eD nJ) (di nJ) (aa nJ) .none hu hv hy ht fy hA,λ s v=>.of_eq rfl,λ base _ _=>Lk T⟩
def walk{l:W.OpenLaw}{q:Program}{loose:List Str}{XP:(Str->Option Value)->Heap->Prop}{YP:World->Heap->Prop}{d:DefRec}{K:Params->W.Frag}(hn:l.most=some 63)(aS:d.params.defaults=[])
  (hY:∀ (w:World) (h:Heap),YP w h->(K w.params).In h)
  (F:∀ (w:World) (mg:Str->Option Value) (fa:Addr) (h:Heap),(K w.params).In h->h.Ns mainGlobals mg->mg d.name=some (.ref fa) →
   ∃ fd:FuncData,(∀ (s:Shared) (u:Value),BindsTo s fd ⟨[u],[]⟩ [("_law_script",u)])/\∀ base:Heap,(K w.params).In base->base.Ns mainGlobals mg->bj l.prog w (K w.params) mg base CX0 11 fa fd ["_law_script"] (xx (K w.params))) :
  W.WalkO q loose XP YP l.row.toRowW d [] (λ f vs=>PySem.call f vs):=
 L2.walk_of (n:=63) (k:=11) (x := "_law_script") (CX:=λ _=>CX0) (sp:=λ w=>xx (K w.params)) hn ⋯ aS ⟨rfl,by decide,by decide⟩ hY F (λ _ _ a ns hl _ hS=>⟨a,rfl,ns,hS,hl,λ _=>rfl⟩) λ _ _ _ _ _ z=>z
end PH
namespace PySem.W.Fast
def tw2327013267707118517:=0
def tw16354906368635235089:=0
def tw8970380915628794758:=0
def tw1814777382792857013:=0
def tw729079156524143802:=0
def tw17327087146694154348:=0
def tw7151775690667465145:=0
def tw17954190380372618116:=0
def tw10859306392288489425:=0
def tw9708776278941093118:=0
def tw11293524144947116773:=0
def tw6734654671151474657:=0
def tw13530502284074237008:=0
def tw3644114455983482259:=0
def tw2408476687999379383:=0
def tw7917009664212667204:=0
def tw14504675091000391436:=0
def tw14593433934414808335:=0
def tw17215646154574293884:=0
def tw9520102153045269704:=0
def tw7866372389898871661:=0
def tw16349043202623848821:=0
def tw15720349837708210189:=0
def tw12406958120969796728:=0
def tw7186504812478237266:=0
def tw12641984713036531900:=0
def tw2900408382645831460:=0
def tw3679225224810104993:=0
def tw10720379514341776371:=0
def tw13227109808239651464:=0
def tw7737789615708934189:=0
def tw4995227522798150070:=0
def tw3176021850099067159:=0
def tw5224025326852307826:=0
def tw1100161157064459883:=0
def tw9713767111210938763:=0
def tw11435748645561621648:=0
def tw1821301332654354661:=0
def tw12241426772983588590:=0
def tw11326185766047215126:=0
def tw13793136675911354474:=0
def tw16811951068092598862:=0
def tw9769965968298164627:=0
def tw17202502853484882737:=0
def tw9692148248234393436:=0
def tw14910942619657124410:=0
def tw7259229848947912740:=0
def tw1776425348236172695:=0
def tw10248256288704749436:=0
def tw14677289452473695726:=0
def tw15639657088106212361:=0
def tw202928640680506059:=0
def tw9370133953602442041:=0
def tw10847966965810012339:=0
def tw14183517184910179395:=0
def tw2070593456053192363:=0
def tw5440856952407702335:=0
def tw10296127647805293848:=0
def tw6249514821336671904:=0
def tw18105241474919345916:=0
def tw1175212351338170045:=0
def tw13182955574774377601:=0
def tw5015121619800083308:=0
def tw12953342398182162751:=0
def tw2616923751041739351:=0
def tw1690912977165992830:=0
def tw839894502691209012:=0
def tw8572802508479737608:=0
def tw15532318159154029688:=0
def tw112270937431490140:=0
def tw9867305348045496530:=0
def tw9415837830588474489:=0
def tw5551294072342971367:=0
def tw7420309543965621756:=0
def tw3612337667324526366:=0
def tw3282311524539601828:=0
def tw12450745772321309950:=0
def tw10126984522086699549:=0
def tw7966797298321166684:=0
def tw10268805933437639288:=0
def tw17393167248534001721:=0
def tw5626382299350408149:=0
def tw6943506007985079144:=0
def tw12822690542966174132:=0
def tw10557845548295618986:=0
def tw9217343455086298099:=0
def tw15865021078764027013:=0
def tw4057209089325303049:=0
def tw7899551262248057355:=0
def tw1981543334589317436:=0
def tw10842417074367389424:=0
def tw812018680051445888:=0
def tw2461821178260844433:=0
def tw6777463372644587230:=0
def tw9047490501213144424:=0
def tw7038663962468683546:=0
def tw4149541398196879831:=0
def tw1203470773403945594:=0
def tw5547083881539867147:=0
def tw18026277956524547728:=0
def tw16155808291541195779:=0
def tw7985014780140315054:=0
def tw9097045685336446876:=0
def tw5322114094929796725:=0
def tw12254733556534713878:=0
def tw12463918048204413804:=0
def tw12751566148511987854:=0
def tw7429227061386107555:=0
def tw5603739142293062059:=0
def tw1038772866941533297:=0
def tw17995152574695550716:=0
def tw6749558841321968548:=0
def tw16508322910389789936:=0
def tw17487904780105140863:=0
def tw9376573021216458872:=0
def tw9439861538649825140:=0
def tw519023224138028762:=0
def tw1071357528539937037:=0
def tw6600368118819956332:=0
def tw3770556646315284578:=0
def tw10389650544094983389:=0
def tw4340459431210025190:=0
def tw3659288122097921739:=0
def tw9713384229390654845:=0
def tw5326631785237577069:=0
def tw16641306573876377421:=0
def tw5467046170751689563:=0
def tw410848914000173223:=0
def tw1212827178477132908:=0
end PySem.W.Fast
open PySem PySem.W PyProof.Rows
theorem PySem.Challenge.cw_pacehall_k74_orders_told_holds : PySem.Challenge.rw_pacehall_k74_orders_told.Holds := by
 w_on;o_law;k_head;(case hw=>w_witness2)
 k_fill
 refine PH.walk (l:=PySem.Challenge.rw_pacehall_k74_orders_told) rfl rfl (λ w h Y=>PySem.W.kIn_of Y) ?F
 case F=>
  intro w mg fa h KX G hmg
  refine' PH.Qc KX G hmg ?y0 ?y1 ?y2 ?y3 ?y4 ?y5 ?y6 ?y7 ?y8 ?y9 ?y10 ?F0 ?F1 ?a2 ?F2 ?a3 ?F3 ?a4 ?F4 ?a5 ?F5 ?a6 ?F6 ?a7 ?F7 ?a8 ?F8 ?a9 ?F9 ?a10 ?F10 ?a11 ?F11 ?a12 ?F12 ?a13 ?F13 ?a14 ?F14 ?a15 ?F15 ?F16 ?F17 ?F18 ?F19 ?F20 ?F21 ?F22 ?F23 ?a24 ?F24 ?a25 ?l25 ?q25 ?c25 ?k25 ?a26 ?F26 ?a27 ?F27 ?a28 ?F28 ?a29 ?F29 ?a30 ?F30 ?a31 ?F31 ?a32 ?F32 ?a33 ?F33 ?a34 ?F34 ?a35 ?F35 ?a36 ?F36 ?a37 ?F37 ?a38 ?F38 ?a39 ?F39 ?a40 ?F40 ?a41 ?F41 ?a42 ?F42 ?F43 ?F44 ?F45 ?F46 ?F47 ?F48 ?a49 ?F49 ?a50 ?F50 ?a51 ?F51 ?a52 ?F52 ?a53 ?F53 ?a54 ?F54 ?a55 ?F55 ?a56 ?F56 ?a57 ?F57 ?a58 ?F58 ?a59 ?F59 ?a60 ?F60 ?a61 ?F61 ?a62 ?F62 ?a63 ?F63 ?a64 ?F64 ?a65 ?F65 ?a66 ?F66 ?a67 ?F67 ?a68 ?F68 ?a69 ?l69 ?c69 ?k69 ?fi_TooMany ?xe_TooMany ?xf_TooMany ?xo_TooMany ?xs_TooMany ?xh_TooMany ?nt_TooMany_number ?nf_TooMany_number ?bs_PaceError ?br_PaceError ?bf_PaceError ?fi_Twice ?xe_Twice ?xf_Twice ?xo_Twice ?xs_Twice ?xh_Twice ?nt_Twice_one ?nf_Twice_one ?nt_Twice_other ?nf_Twice_other ?pg_View ?hd_View ?po_View ?sa_View ?nf_View_axes ?nf_View_first ?nf_View_room ?fi_View___init__ ?fn_View___init__ ?mm_View ?ck_View ?fi_View_sizes ?fn_View_sizes ?fi_View_paces ?fn_View_paces ?fi_View_count ?fn_View_count ?fi_View_cell ?fn_View_cell ?fi_View_cells ?fn_View_cells ?fi_View_least ?fn_View_least ?fi_View_greatest ?fn_View_greatest ?pg_Store ?hd_Store ?po_Store ?sa_Store ?nf_Store_floor ?fi_Store___init__ ?fn_Store___init__ ?mm_Store ?ck_Store ?fi_Store_all_values ?fn_Store_all_values ?fi_Store_refuse_room ?fn_Store_refuse_room ?fi_Store_read ?fn_Store_read ?fi_Store_put ?fn_Store_put ?fi_Store_copied ?fn_Store_copied ?w0 ?w1 ?w2 ?w3 ?z0 ?z1 ?z2 ?z3 ?z4 ?z5 ?z6 ?z7 ?z8 ?z9 ?z10 ?z11 ?z12 ?z13 ?z14 ?z15 ?z16
  (case y0|y1|y2|y3|y4|y5|y6|y7|y8|y9|y10|fi_TooMany=>first|k_is|k_exc|kts_exm|decide|rfl|decide +kernel|kernel_rfl)
  (case fi_Twice|fi_View___init__|fi_View_sizes|fi_View_paces|fi_View_count|fi_View_cell|fi_View_cells|fi_View_least|fi_View_greatest|fi_Store___init__|fi_Store_all_values|fi_Store_refuse_room=>first|k_is|k_exc|kts_exm|decide|rfl|decide +kernel|kernel_rfl)
  (case fi_Store_read|fi_Store_put|fi_Store_copied|a2|a3|a4|a5|a6|a7|a8|a9|a10=>first|k_is|k_exc|kts_exm|decide|rfl|decide +kernel|kernel_rfl)
  (case a11|a12|a13|a14|a15|a24|a25|a26|a27|a28|a29|a30=>first|k_is|k_exc|kts_exm|decide|rfl|decide +kernel|kernel_rfl)
  (case a31|a32|a33|a34|a35|a36|a37|a38|a39|a40|a41|a42=>first|k_is|k_exc|kts_exm|decide|rfl|decide +kernel|kernel_rfl)
  (case a49|a50|a51|a52|a53|a54|a55|a56|a57|a58|a59|a60=>first|k_is|k_exc|kts_exm|decide|rfl|decide +kernel|kernel_rfl)
  (case a61|a62|a63|a64|a65|a66|a67|a68|a69=>first|k_is|k_exc|kts_exm|decide|rfl|decide +kernel|kernel_rfl)
  (case F0|F1|F2|F3|F4|F5|F6|F7|F8|F9|F10|F11=>(refine' L2.MK ?l ?c ?k;(case l|c|k=>first|k_is|k_exc|kts_exm|decide|rfl|decide +kernel|kernel_rfl)))
  (case F12|F13|F14|F15|F16|F17|F18|F19|F20|F21|F22|F23=>(refine' L2.MK ?l ?c ?k;(case l|c|k=>first|k_is|k_exc|kts_exm|decide|rfl|decide +kernel|kernel_rfl)))
  (case F24|F26|F27|F28|F29|F30|F31|F32|F33|F34|F35|F36=>(refine' L2.MK ?l ?c ?k;(case l|c|k=>first|k_is|k_exc|kts_exm|decide|rfl|decide +kernel|kernel_rfl)))
  (case F37|F38|F39|F40|F41|F42|F43|F44|F45|F46|F47|F48=>(refine' L2.MK ?l ?c ?k;(case l|c|k=>first|k_is|k_exc|kts_exm|decide|rfl|decide +kernel|kernel_rfl)))
  (case F49|F50|F51|F52|F53|F54|F55|F56|F57|F58|F59|F60=>(refine' L2.MK ?l ?c ?k;(case l|c|k=>first|k_is|k_exc|kts_exm|decide|rfl|decide +kernel|kernel_rfl)))
  (case F61|F62|F63|F64|F65|F66|F67|F68=>(refine' L2.MK ?l ?c ?k;(case l|c|k=>first|k_is|k_exc|kts_exm|decide|rfl|decide +kernel|kernel_rfl)))
  (case l25|q25|c25|k25|l69|c69|k69|xe_TooMany|xf_TooMany|xo_TooMany|xs_TooMany|xh_TooMany=>first|k_is|k_exc|kts_exm|decide|rfl|decide +kernel|kernel_rfl)
  (case nt_TooMany_number|nf_TooMany_number|bs_PaceError|br_PaceError|bf_PaceError|xe_Twice|xf_Twice|xo_Twice|xs_Twice|xh_Twice|nt_Twice_one|nf_Twice_one=>first|k_is|k_exc|kts_exm|decide|rfl|decide +kernel|kernel_rfl)
  (case nt_Twice_other|nf_Twice_other|pg_View|hd_View|po_View|sa_View|nf_View_axes|nf_View_first|nf_View_room|fn_View___init__|mm_View|ck_View=>first|k_is|k_exc|kts_exm|decide|rfl|decide +kernel|kernel_rfl)
  (case fn_View_sizes|fn_View_paces|fn_View_count|fn_View_cell|fn_View_cells|fn_View_least|fn_View_greatest|pg_Store|hd_Store|po_Store|sa_Store|nf_Store_floor=>first|k_is|k_exc|kts_exm|decide|rfl|decide +kernel|kernel_rfl)
  (case fn_Store___init__|mm_Store|ck_Store|fn_Store_all_values|fn_Store_refuse_room|fn_Store_read|fn_Store_put|fn_Store_copied|w0|w1|w2|w3=>first|k_is|k_exc|kts_exm|decide|rfl|decide +kernel|kernel_rfl)
  (case z0|z1|z2|z3|z4|z5|z6|z7|z8|z9|z10|z11=>first|k_is|k_exc|kts_exm|decide|rfl|decide +kernel|kernel_rfl)
  (case z12|z13|z14|z15|z16=>first|k_is|k_exc|kts_exm|decide|rfl|decide +kernel|kernel_rfl)
#print axioms PySem.Challenge.cw_pacehall_k74_orders_told_holds