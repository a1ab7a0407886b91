import PyProof.Rows.All
import Wide.All
import OpenK.AllK
import Wide.FinOn
import Lean
import PyProof.EqAt
import PyProof.EqKinds
import PyProof.TupleCall
import PySem.Challenge.RW_pacehall_k75_whole_up_to_4096_places
set_option Elab.async false
set_option linter.all false
set_option maxRecDepth 100000
set_option maxHeartbeats 0
open List (filterMap_cons mem_cons_self mem_cons_of_mem mem_append_left getElem_inj mem_append_right length_cons map_cons length_map append_nil of_mem_zip length_take getElem?_append_right getElem?_append_left getElem?_map mem_of_getElem? length_append length_replicate size_toArray length_drop map_nil length_set all_cons any_cons replicate_succ foldl_cons find?_cons cons_append length_nil getElem_mem getElem?_eq_getElem forIn_cons lookup_cons mem_cons not_mem_nil drop_zero take_of_length_le take_length all_eq_true getElem_of_mem forIn_nil nodup_cons nodup_nil getElem?_eq_none length_zip length_range any_eq_true ext_getElem getD_eq_getElem?_getD eq_nil_of_length_eq_zero map_append take_add_one mem_of_mem_take zipWith_cons_cons sum_cons foldl_append map_map all_map)
namespace QL
def My:=@PySem.wpAny_bind
def Rb:=@List.getElem?_eq_getElem
def Rc:=@PySem.Heap.get?_push_of_some
def Rf:=@List.getElem?_eq_some_iff
def Rg:=@List.mem_singleton
def Rh:=@List.length_map
def Ri:=@PySem.wpAny_pure
def Rj:=@List.mem_map
def Rk:=@PySem.Heap.lt_size
def Rl:=@Nat.le_refl
def Rm:=@Option.map_eq_some_iff
def Rn:=@PySem.Heap.get?_push_size
def Ro:=@List.mem_cons_of_mem
def Rp:=@decide_eq_true
def Rq:=@List.getElem?_map
def Rr:=@List.mem_cons_self
def Rt:=@Int.toNat_natCast
def Ru:=@Ne.symm
def Rv:=@List.not_mem_nil
def Rw:=@Bool.false_ne_true
def Rx:=@List.mem_of_getElem?
def Ry:=@decide_eq_false
def Rz:=@List.mem_cons
def RA:=@PySem.PassesOwn.never
def RB:=@List.mem_append_left
def RC:=@Nat.ne_of_lt
def RD:=@Nat.lt_of_lt_of_le
def RE:=@Option.some.inj
def RF:=@Int.eq_ofNat_of_zero_le
def RG:=@List.mem_append_right
def RH:=@if_neg
def RI:=@List.length_append
def RJ:=@List.size_toArray
def RK:=@PySem.Heap.get?_update_other
def RL:=@List.length_range
def RM:=@PySem.wpAny_seqItems
def RN:=@PySem.W.mg_of
def RO:=@List.mem_range
def RP:=@if_pos
def RQ:=@List.mem_append
def RS:=@PySem.F.plainAttrs_list
def RT:=@PySem.Heap.size_push
def RU:=@List.getD_eq_getElem?_getD
def RV:=@or_false
def RW:=@of_decide_eq_true
def RX:=@PySem.wpAny_field
def RY:=@PyProof.Rows.callWith_type1
def RZ:=@Int.zero_add
def R0:=@List.length_take
def R1:=@List.getElem?_append_right
def R3:=@PySem.Heap.get?_update_self
def R4:=@PySem.wpAny_setField_rec
def R5:=@Int.mul_le_mul_of_nonneg_right
def R6:=@List.take_length
def R7:=@List.take_add_one
def R8:=@List.getElem?_append_left
def R9:=@Nat.lt_irrefl
def Sa:=@List.getElem?_zip_eq_some
def Sb:=@Int.toNat_of_nonneg
def Sd:=@Nat.ne_of_gt
def Se:=@List.map_map
def Sf:=@List.eq_nil_of_length_eq_zero
def Sg:=@Nat.le_add_right
def Sh:=@List.map_cons
def Si:=@PySem.wpAny_callSpecial?_slot
def Sj:=@Nat.le_trans
def Sk:=@List.mem_of_mem_take
def Sl:=@List.mem_filter
def Sm:=@List.nodup_append
def So:=@Nat.zero_le
def Sq:=@PySem.wpAny_truthy_bool
def Sr:=@List.all_eq_true
def Ss:=@Nat.lt_succ_self
def Su:=@PySem.W.mg_none_of
def Sv:=@Option.isSome_iff_exists
def Sw:=@List.mem_iff_getElem?
def Sx:=@PySem.F.slot_zip_next
def Sy:=@List.length_cons
def Sz:=@PySem.wpAny_letGo
def SA:=@congrArg
def SD:=@List.findIdx?_eq_some_iff_getElem
def SE:=@Bool.eq_iff_iff
def SF:=@Bool.and_eq_true
def SG:=@PySem.wpAny_updateSeq
def SH:=@PySem.wpAny_holding
def SI:=@List.map_append
def SJ:=@PySem.Around.under_plainId
def SK:=@List.getElem?_eq_none
def SM:=@PySem.wpAny_call_entry
def SN:=@List.zipWith_cons_cons
def SO:=@List.take_of_length_le
def SQ:=@List.getElem_mem
def SR:=@PySem.wpAny_newObj_type
def SS:=@PySem.F.type_list_append
def SU:=@PySem.F.slot_list_append
def SV:=@Bool.false_eq_true
def SW:=@Int.mul_comm
def SX:=@PySem.wpAny_tryCatch
def SY:=@List.nodup_cons
def S0:=@PySem.wpAny_pyIter_list
def S1:=@List.mem_flatMap
def S2:=@PySem.F.slot_dict_get
def S3:=@List.length_replicate
def S4:=@List.foldl_append
def S5:=@PySem.wpAny_onRaise
def S6:=@PySem.wpAny_Call_Name_kw
def S7:=@PySem.plainId_quiet
def S8:=@decide_eq_true_eq
def S9:=@Int.emod_eq_of_lt
def Ta:=@beq_eq_false_iff_ne
def Tb:=@List.length_zip
def Tc:=@PySem.codeAny_builtin
def Td:=@Int.mul_le_mul_of_nonneg_left
def Te:=@List.drop_of_length_le
def Tf:=@List.replicate_succ
def Tg:=@List.of_mem_zip
def Th:=@List.length_set
def Ti:=@List.getElem_of_mem
def Tj:=@List.foldl_cons
def Tn:=@List.filterMap_cons
def To:=@PySem.F.plain_min_loop
def Tp:=@PySem.F.plain_max_loop
def Tq:=@not_false_eq_true
def Tr:=@List.pairwise_map
def Ts:=@PySem.Calls.spliced_cons
def Tt:=@List.mem_of_mem_drop
def Tu:=@List.lookup_cons
def Tv:=@PySem.wpAny_passesOwn
def Tw:=@PySem.F.plain_extend_loop
def Tz:=@List.drop_eq_getElem_cons
def TB:=@Array.getElem?_eq_getElem
def TC:=@List.find?_cons
def TF:=@PySem.mem_of_lookup
def TH:=@PySem.F.args_zip_next_1
def TJ:=@PySem.F.type_list_extend
def TK:=@PySem.F.slot_list_extend
def TL:=@PySem.F.slot_tuple_iterator_next
def TM:=@List.nodup_nil
def TN:=@PySem.F.slot_tuple_hash
def TQ:=@Option.map_some
def TR:=@Nat.not_lt_zero
def TU:=@List.zip_cons_cons
def TV:=@Int.mul_assoc
def TX:=@Int.ediv_ediv_of_nonneg
def TY:=@List.any_eq_true
def TZ:=@PySem.F.entry_zip_next
def T1:=@List.forIn_cons
def T2:=@List.append_nil
def T3:=@not_or
def T4:=@PySem.F.entry_dict_get
def T5:=@if_true
def T6:=@PyProof.Rows.slot_tuple_getitem
def T7:=@Nat.lt_succ_of_lt
def T8:=@List.flatten_cons
def T9:=@List.flatMap_cons
def Ua:=@if_false
def Ub:=@PySem.wpAny_specialOf
def Uc:=@PySem.tupleKind_room_in1
def Ud:=@PySem.W.kia_one
def Ue:=@Nat.le_of_lt
def Ug:=@List.length_singleton
def Uh:=@List.length_filter_le
def Ui:=@List.length_drop
def Uj:=@List.getElem_inj
def Uk:=@Nat.mul_le_mul_right
def Ul:=@PySem.Calls.callWith_builtin
def Um:=@PySem.wpAny_rule
def Uo:=@PySem.Calls.spliced_nil
def Up:=@Bool.true_and
def Uq:=@Option.some_ne_none
def Ur:=@Nat.le_succ
def Us:=@List.getElem?_range
def Ut:=@List.flatMap_append
def Uu:=@Int.natCast_mul
def Uv:=@Array.length_toList
def Uw:=@PySem.wpAny_pyIter_zip
def Ux:=@Nat.lt_trans
def Uy:=@List.filter_append
def Uz:=@Int.emod_lt_of_pos
def UA:=@PySem.wpAny_attempt
def UB:=@PySem.F.type_list_reverse
def UC:=@PySem.F.slot_list_reverse
def UD:=@Int.mul_nonneg
def UE:=@Bool.false_and
def UG:=@List.ext_getElem
def UH:=@PySem.F.args_tuple_add_2
def UI:=@PySem.F.entry_tuple_add
def UJ:=@List.pairwise_singleton
def UK:=@List.getElem?_replicate
def UL:=@Bool.and_true
def UM:=@PySem.codeAny_mono
def UN:=@beq_self_eq_true
def UO:=@Nat.min_eq_right
def UP:=@List.zipIdx_cons
def UQ:=@List.map_fst_zip
def UR:=@PySem.F.slot_tuple_add
def US:=@List.forIn_nil
def UT:=@PySem.wpAny_mono
def UU:=@Nat.min_eq_left
def UW:=@List.zipIdx_nil
def UX:=@List.take_append_drop
def UY:=@List.cons.injEq
def UZ:=@Int.emod_nonneg
def U0:=@Int.emod_add_mul_ediv
def U1:=@Bool.or_eq_true
def U2:=@List.sum_cons
def U3:=@List.cons_append
def U4:=@beq_iff_eq
def U5:=@PySem.Paired.length
def U6:=@PySem.Moved.trans
def U7:=@PySem.wpAny_isInstance
def U8:=@List.take_succ
def U9:=@Int.mul_le_mul
def Va:=@PySem.Heap.size_update
def Vb:=@List.map_congr_left
def Vc:=@List.length_reverse
def Vd:=@List.length_pos_iff
def Ve:=@Int.mul_one
def Vf:=@Int.le_refl
def Vg:=@List.map_nil
def Vh:=@List.all_map
def Vi:=@PySem.wpAny_execs_nil
def Vj:=@List.length_nil
def Vk:=@Option.toList_some
def Vl:=@List.mem_filterMap
def Vm:=@List.map_take
def Vn:=@List.getElem_range
def Vo:=@List.getElem?_take
def Vp:=@PySem.Walks.list
def Vq:=@PySem.wpAny_updateSeq_pair
def Vr:=@Option.isSome_map
def Vs:=@List.append_assoc
def Vt:=@PySem.Heap.get?_none_of_le
def Vu:=@PySem.Calls.evalArgs_plain
def Vv:=@PySem.wpAny_comprehension_free
def Vw:=@Nat.succ.inj
def Vx:=@Nat.sub_zero
def Vy:=@Nat.le_total
def Vz:=@PySem.Moved.drop_new
def VA:=@Int.zero_mul
def VB:=@decide_eq_decide
def VC:=@Option.getD_some
def VD:=@Option.getD_none
def VE:=@Nat.le_of_not_lt
def VF:=@List.nodup_range
def VG:=@List.map_reverse
def VH:=@List.drop_length
def VI:=@PySem.Heap.SameBut.update
def VJ:=@List.drop_zero
def VL:=@List.any_cons
def VM:=@List.dropLast_concat_getLast
def VN:=@PySem.wpAny_standAt
def VO:=@List.zip_append
def VP:=@List.nil_append
def VQ:=@Int.mul_neg
def VR:=@Int.add_mul_emod_self_right
def VS:=@Int.add_mul
end QL
open QL
namespace L2
open PySem PySem.Spec PyProof.Rows
abbrev Key:=Sum Int Str
def vH:Key->Value->Bool
 | .inl k,v=>Value.isInt k v
 | .inr x,v=>Value.isStrOf x v
def QZ(w:World):Key->Int
 | .inl k=>hashInt k
 | .inr x=>hashStr w x
def bu:∀ {k:Key}{v:Value},vH k v=true->(∃ i t,k=Sum.inl i/\v=Value.int i t)\/(∃ x t,k=Sum.inr x/\v=Value.str x t)
 | .inl i,v,h=>by
  obtain⟨t,e⟩:=Value.isInt_shape (k:=i) (v:=v) h;exact .inl ⟨i,t,rfl,e⟩
 | .inr x,v,h=>by
  obtain⟨t,e⟩:=Value.isStrOf_shape (x:=x) (v:=v) h;exact .inr ⟨x,t,rfl,e⟩
def Bi(i:Int)(t:Tok):vH (.inl i) (.int i t)=true:=by simp [vH,Value.isInt]
def Bh(x:Str)(t:Tok):vH (.inr x) (.str x t)=true:=by simp [vH,Value.isStrOf]
def MZ(a b:Int):decide ((Sum.inl a:Key)=Sum.inl b)=(a == b):=by
 by_cases e:a=b
 ·subst e;simp
 ·have h:¬ (Sum.inl a:Key)=Sum.inl b:=λ q=>e (Sum.inl.inj q);rw [Ry h];exact(Ta.mpr e).symm
def MW(a b:Str):decide ((Sum.inr a:Key)=Sum.inr b)=decide (a=b):=by
 by_cases e:a=b
 ·subst e;simp
 ·have h:¬ (Sum.inr a:Key)=Sum.inr b:=λ q=>e (Sum.inr.inj q);rw [Ry h,Ry e]
def MY(a:Int)(b:Str):decide ((Sum.inl a:Key)=Sum.inr b)=false:=Ry (λ q=>nomatch q)
def MX(a:Str)(b:Int):decide ((Sum.inr a:Key)=Sum.inl b)=false:=Ry (λ q=>nomatch q)
def bH(prog:Program)(w:World):PySem.KeyKind prog w Key where
 is:=vH
 hash:=QZ w
 inj:=λ v a b ha hb=>by
  rcases bu ha with ⟨i,t,rfl,rfl⟩|⟨x,t,rfl,rfl⟩
  ·rcases bu hb with ⟨j,u,rfl,e⟩|⟨y,u,rfl,e⟩
   ·injection e with e1 _;rw [e1]
   ·exact nomatch e
  ·rcases bu hb with ⟨j,u,rfl,e⟩|⟨y,u,rfl,e⟩
   ·exact nomatch e
   ·injection e with e1 _;rw [e1]
 byValue:=λ k v h=>by
  rcases bu h with ⟨i,t,rfl,rfl⟩|⟨x,t,rfl,rfl⟩<;>rfl
 pyHash:=λ hv h=>by
  rcases bu hv with ⟨i,t,rfl,rfl⟩|⟨x,t,rfl,rfl⟩
  ·exact wpAny_pyHash_int h
  ·exact wpAny_pyHash_str h
 eqBool:=λ hu hv h=>by
  rcases bu hu with ⟨i,t,rfl,rfl⟩|⟨x,t,rfl,rfl⟩
  ·rcases bu hv with ⟨j,u,rfl,rfl⟩|⟨y,u,rfl,rfl⟩
   ·rw [MZ] at h;exact wpAny_eqBool_int h
   ·rw [MY] at h;exact SeqAt.EqAt.int_str i t y u _ _ _ _ h
  ·rcases bu hv with ⟨j,u,rfl,rfl⟩|⟨y,u,rfl,rfl⟩
   ·rw [MX] at h;exact SeqAt.EqAt.str_int x t j u _ _ _ _ h
   ·rw [MW] at h;exact wpAny_eqBool_str h
 «strs»:=λ k x t v h=>by
  rcases bu h with ⟨i,u,rfl,e⟩|⟨y,u,rfl,e⟩
  ·exact nomatch e
  ·injection e with e1 _
   subst e1
   cases v<;>rfl
def tL(prog:Program)(w:World)(i:Int)(t:Tok):(bH prog w).is (.inl i) (.int i t)=true:=Bi i t
def tK(prog:Program)(w:World)(x:Str)(t:Tok):(bH prog w).is (.inr x) (.str x t)=true:=Bh x t
inductive V where
 | non|bl (b:Bool)|int (i:Int)|str (x:Str)|byt (b:Array UInt8)|flt (b:UInt64)|ref (a:Addr)|ty (n:String)
 deriving DecidableEq
def bD:V->Value->Prop
 | .non,u=>u=Value.none
 | .bl b,u=>u=Value.bool b
 | .int i,u=>∃ t,u=Value.int i t
 | .str x,u=>∃ t,u=Value.str x t
 | .byt b,u=>∃ t,u=Value.bytes b t
 | .flt b,u=>∃ t,u=Value.float b t
 | .ref a,u=>u=Value.ref a
 | .ty n,u=>u=Value.type n
abbrev aU:List V->List Value->Prop:=Paired bD
def aU.length{xs:List V}{us:List Value}(r:aU xs us):xs.length=us.length:=U5 r
def aU.get:∀ {xs:List V}{us:List Value}{i:Nat}{x:V},aU xs us->xs[i]? = some x->∃ u,us[i]? = some u/\bD x u
 | _,_,_,_,.nil,e=>by simp at e
 | _,_,0,_,.cons r _,e=>by simp at e;subst e;exact⟨_,rfl,r⟩
 | _,_,i+1,x,.cons _ t,e=>by
  obtain⟨u,h1,h2⟩:=aU.get (i:=i) (x:=x) t (by simpa using e);exact⟨u,by simpa using h1,h2⟩
def aU.set{x:V}{u:Value}(r:bD x u):∀ {xs:List V}{us:List Value}(i:Nat),aU xs us->aU (xs.set i x) (us.set i u)
 | _,_,_,.nil=>.nil
 | _,_,0,.cons _ t=>.cons r t
 | _,_,i+1,.cons q t=>.cons q (aU.set r i t)
def aU.append:∀ {xs ys:List V}{us ws:List Value},aU xs us->aU ys ws->aU (xs++ys) (us++ws)
 | _,_,_,_,.nil,s=>s
 | _,_,_,_,.cons r t,s=>.cons r (aU.append t s)
def aU.take:∀ {xs:List V}{us:List Value}(n:Nat),aU xs us->aU (xs.take n) (us.take n)
 | _,_,0,_=>.nil
 | _,_,_+1,.nil=>.nil
 | _,_,n+1,.cons r t=>.cons r (aU.take n t)
def aU.drop:∀ {xs:List V}{us:List Value}(n:Nat),aU xs us->aU (xs.drop n) (us.drop n)
 | _,_,0,r=>r
 | _,_,_+1,.nil=>.nil
 | _,_,n+1,.cons _ t=>aU.drop n t
def aU.none_of:∀ {xs:List V}{us:List Value}{i:Nat},aU xs us->xs[i]? = none->us[i]? = none:=λ {xs us i} r e=>by
 have h1:=r.length;have h2:xs.length<=i:=List.getElem?_eq_none_iff.mp e;exact List.getElem?_eq_none_iff.mpr (by omega)
def pB:Option V->Option Value->Prop
 | some v,some u=>bD v u
 | none,none=>True
 | _,_=>False
def KV{κ:Type}:List (κ × V)->List (κ × Value)->Prop:=Paired λ (p:κ × V) (q:κ × Value)=>p.1=q.1/\bD p.2 q.2
def kV:Key->V
 | .inl i=>.int i
 | .inr x=>.str x
inductive HO where
 | lst (xs:List V)
 | tup (xs:List V)
 | dK (kvs:List (Key × V))|dT (kvs:List (List Key × V))
 | set (S:Int->Bool) (n:Nat)
 | ins (C dx:Addr) (fs:List (Str × V))
 | own (x:Addr)
 | xd (fs:List (Str × V))
 | met (f x:Addr)
 | rng (lo hi:Int)
 | frz (o:Obj) (u:HO)
 | tbl (ps:Array Value)
 | ext (φ:Heap->Prop)
abbrev Hp:=Addr->Option HO
def upd(H:Hp)(a:Addr)(o:HO):Hp:=λ b=>if b=a then some o else H b
def aq{H:Hp}{a:Addr}{o:HO}:upd H a o a=some o:=by unfold upd;rw [if_pos rfl]
def ah{H:Hp}{a b:Addr}{o:HO}(h:b ≠ a):upd H a o b=H b:=by unfold upd;rw [if_neg h]
def GL{H:Hp}{a:Addr}{o u:HO}:upd (upd H a o) a u=upd H a u:=by
 funext b;unfold upd;split<;>rfl
def OM{H:Hp}{a b:Addr}{o u:HO}(h:H a=some o)(h':H b=some u)(d:o ≠ u):a ≠ b:=by
 intro e;subst e;rw [h] at h';exact d (RE h')
def cg{H:Hp}{a b:Addr}{o:HO}(h:H a=some o)(h':H b=none):a ≠ b:=by
 intro e;subst e;rw [h] at h';cases h'
section
variable (P:Program)(w:World)
def bW(H:Hp)(h:Heap)(a:Addr):HO->Prop
 | .lst xs=>xs.length<=sizeLine/\∃ (its:List Value) (n:Nat),aU xs its/\h.get? a=some { cls:=.type "list",data:=.seq its.toArray n }
 | .tup xs=>xs.length<=sizeLine/\∃ its:List Value,aU xs its/\IsTup h a its.toArray
 | .dK kvs=>kvs.length<=sizeLine/\(a == sysModules)=false/\∃ vs,KV kvs vs/\h.DictOf (bH P w) a vs
 | .dT kvs=>kvs.length<=sizeLine/\(a == sysModules)=false/\∃ xs:List (List Key × Addr × Value),
   Paired (λ (p:List Key × V) (q:List Key × Addr × Value)=>p.1=q.1/\H q.2.1=some (.tup (p.1.map kV))/\bD p.2 q.2.2) kvs xs /\
   ∃ o es ep,h.get? a=some o/\o.ExactDict/\o.data=.dict es ep/\es.toList=xs.map (entryOfKey (tupleKind (bH P w)))/\(xs.map (·.1)).Nodup
 | .set S n=>h.SetOf (intKind P w) a S n
 | .ins C dx fs=>H dx=some (.own a)/\fs.length<=1000/\dx ≠ a/\h.get? a=some (W.instObj C dx) /\
   ∃ mA,h.Ns1 dx mA/\(∀ f,pB (fs.lookup f) (mA f))/\PySem.Within mA (fs.map (·.1))
 | .own _=>∃ o,h.get? a=some o
 | .xd fs=>∃ mA,h.Ns1 a mA/\∀ f,pB (fs.lookup f) (mA f)
 | .rng lo hi=>∃ t u v,h.get? a=some { cls:=.type "range",data:=.fields #[.int lo t,.int hi u,.int 1 v] }
 | .frz o u=>h.get? a=some o/\bW H h a u
 | .tbl ps=>h.get? a=some { cls:=.none,data:=.fields ps }
 | .met f x=>h.get? a=some (W.methodObj (.ref f) (.ref x))
 | .ext φ=>φ h/\(∃ o,h.get? a=some o)/\∀ h1 h2:Heap,φ h1->(∀ o,h1.get? a=some o->h2.get? a=some o)->φ h2
def HOk(H:Hp)(h:Heap):Prop:=∀ a o,H a=some o->bW P w H h a o
end
section
variable {P:Program}{w:World}{H H':Hp}{h h':Heap}{a:Addr}{o:HO}
def bW.lt(x:bW P w H h a o):a < h.objs.size:=by
 cases o with
 | lst xs=>obtain⟨_,_,_,_,e⟩:=x;exact Rk e
 | tup xs=>obtain⟨_,_,_,p⟩:=x;exact p.lt
 | dK kvs=>obtain⟨_,_,_,_,o,_,_,e,_⟩:=x;exact Rk e
 | dT kvs=>obtain⟨_,_,_,_,o,_,_,e,_⟩:=x;exact Rk e
 | set S n=>obtain⟨o,_,_,_,e,_⟩:=x;exact Rk e
 | ins C dx fs=>obtain⟨_,_,_,e,_⟩:=x;exact Rk e
 | own y=>obtain⟨_,e⟩:=x;exact Rk e
 | xd fs=>obtain⟨_,⟨_,_,_,e,_⟩,_⟩:=x;exact Rk e
 | rng lo hi=>obtain⟨_,_,_,e⟩:=x;exact Rk e
 | frz ob u=>obtain⟨e,_⟩:=x;exact Rk e
 | tbl ps=>exact Rk (show h.get? a=some _ from x)
 | met f y=>exact Rk (show h.get? a=some _ from x)
 | ext φ=>obtain⟨_,⟨_,e⟩,_⟩:=x;exact Rk e
def Paired.mapP{α β:Type}{F G:α->β->Prop}:∀ {l₁:List α}{l₂:List β},Paired F l₁ l₂->(∀ a b,F a b->G a b)->Paired G l₁ l₂
 | _,_,.nil,_=>.nil
 | _,_,.cons r t,f=>.cons (f _ _ r) (Paired.mapP t f)
def bW.stay(x:bW P w H h a o)(k:∀ b u,(b=a\/H b=some (.own a))->h.get? b=some u->h'.get? b=some u)
  (ho:∀ b,H b=some (.own a)->H' b=some (.own a)) (ht:∀ b xs,H b=some (.tup xs)->H' b=some (.tup xs)):bW P w H' h' a o:=by
 induction o with
 | lst xs=>obtain⟨z,its,n,r,e⟩:=x;exact⟨z,its,n,r,k _ _ (.inl rfl) e⟩
 | tup xs=>obtain⟨z,its,r,ob,e,c⟩:=x;exact⟨z,its,r,ob,k _ _ (.inl rfl) e,c⟩
 | dK kvs=>obtain⟨z,y,vs,r,ob,es,ep,e,c⟩:=x;exact⟨z,y,vs,r,ob,es,ep,k _ _ (.inl rfl) e,c⟩
 | dT kvs=>
  obtain⟨z,y,xs,r,ob,es,ep,e,c⟩:=x;exact⟨z,y,xs,Paired.mapP r λ p q z=>⟨z.1,ht _ _ z.2.1,z.2.2⟩,ob,es,ep,k _ _ (.inl rfl) e,c⟩
 | set S n=>obtain⟨ob,es,ep,t,e,c⟩:=x;exact⟨ob,es,ep,t,k _ _ (.inl rfl) e,c⟩
 | ins C dx fs=>
  obtain⟨d,z,ne,e,mA,⟨od,es,ep,e2,c⟩,r⟩:=x;exact⟨ho _ d,z,ne,k _ _ (.inl rfl) e,mA,⟨od,es,ep,k _ _ (.inr d) e2,c⟩,r⟩
 | own y=>obtain⟨ob,e⟩:=x;exact⟨ob,k _ _ (.inl rfl) e⟩
 | xd fs=>obtain⟨mA,⟨od,es,ep,e,c⟩,r⟩:=x;exact⟨mA,⟨od,es,ep,k _ _ (.inl rfl) e,c⟩,r⟩
 | rng lo hi=>obtain⟨t,u,v,e⟩:=x;exact⟨t,u,v,k _ _ (.inl rfl) e⟩
 | frz ob u ih=>obtain⟨e,q⟩:=x;exact⟨k _ _ (.inl rfl) e,ih q⟩
 | tbl ps=>
  have e:h.get? a=some { cls:=.none,data:=.fields ps }:=x
  show h'.get? a=some { cls:=.none,data:=.fields ps }
  exact k a _ (.inl rfl) e
 | met f y=>
  have e:h.get? a=some (W.methodObj (.ref f) (.ref y)):=x
  show h'.get? a=some (W.methodObj (.ref f) (.ref y))
  exact k a _ (.inl rfl) e
 | ext φ=>obtain⟨p,⟨o,e⟩,st⟩:=x;exact⟨st _ _ p λ o q=>k _ _ (.inl rfl) q,⟨o,k _ _ (.inl rfl) e⟩,st⟩
def HOk.lt(x:HOk P w H h)(e:H a=some o):a < h.objs.size:=(x a o e).lt
def HOk.fresh(x:HOk P w H h)(e:h.objs.size<=a):H a=none:=by
 cases q:H a with
 | none=>rfl
 | some u=>exact absurd (RD (x.lt q) e) (R9 _)
def HOk.kept(x:HOk P w H h)(k:∀ b u,h.get? b=some u->h'.get? b=some u):HOk P w H h':=λ a o e=>
 (x a o e).stay (λ b u _ q=>k b u q) (λ _ q=>q) λ _ _ q=>q
def HOk.laid(x:HOk P w H h)(k:∀ b u,h.get? b=some u->h'.get? b=some u)(hp:h.objs.size<=a)(new:bW P w (upd H a o) h' a o):HOk P w (upd H a o) h':=λ b u e=>by
 have hn:=x.fresh hp
 by_cases hb:b=a
 ·subst hb;rw [aq] at e;cases e;exact new
 ·rw [ah hb] at e;exact(x b u e).stay (λ c v _ q=>k c v q) (λ c q=>by rw [ah (cg q hn)];exact q) λ c xs q=>by rw [ah (cg q hn)];exact q
end
def Rd(H:Hp)(a:Addr)(u:HO):Prop:=H a=some u\/∃ o,H a=some (.frz o u)
def Rd.ok{P:Program}{w:World}{H:Hp}{h:Heap}{a:Addr}{u:HO}(r:Rd H a u)(x:HOk P w H h):bW P w H h a u:=by
 rcases r with r|⟨o,r⟩
 ·exact x a u r
 ·obtain⟨_,q⟩:=x a _ r;exact q
def Mut:Option HO->Prop
 | some (.lst _)=>True
 | some (.dK _)=>True
 | some (.dT _)=>True
 | some (.set _ _)=>True
 | some (.ins _ _ _)=>True
 | some (.ext _)=>True
 | _=>False
section
variable {P:Program}{w:World}{H:Hp}{h h':Heap}{x e:Addr}{o':HO}
def HOk.write(ok:HOk P w H h)(mu:Mut (H x))(he:e=x\/H e=some (.own x))(k:∀ b u,b ≠ e->h.get? b=some u->h'.get? b=some u)(a3:∃ u,h'.get? e=some u)
  (new:bW P w (upd H x o') h' x o'):HOk P w (upd H x o') h':=λ b u q=>by
 have aS:∀ c y,H c=some (.own y)->c ≠ x:=λ c y r z=>by subst z;rw [r] at mu;exact mu
 have aX:∀ c xs,H c=some (.tup xs)->c ≠ x:=λ c xs r z=>by subst z;rw [r] at mu;exact mu
 by_cases hb:b=x
 ·subst hb;rw [aq] at q;cases q;exact new
 ·rw [ah hb] at q
  by_cases hbe:b=e
  ·have q':H b=some (.own x):=by
    rcases he with z|z
    ·exact absurd (hbe.trans z) hb
    ·rw [hbe];exact z
   rw [q] at q';cases q';obtain⟨v,hv⟩:=a3;exact⟨v,by rw [hbe];exact hv⟩
  ·refine(ok b u q).stay (λ c v hc r=>k c v ?_ r) (λ c r=>by rw [ah (aS c b r)];exact r) λ c xs r=>by rw [ah (aX c xs r)];exact r
   rcases hc with rfl|hc
   ·exact hbe
   ·rintro rfl
    rcases he with z|z
    ·exact aS c b hc z
    ·rw [hc] at z;cases z;exact hb rfl
end
structure Un(fs ex:List Addr)(H H':Hp)(h h':Heap):Prop where
 keep:∀ b o,h.get? b=some o->H b=none->b ∉ fs->b ∉ ex->h'.get? b=some o
 slot:∀ b o,h.get? b=some o->H b=none->b∈fs->b ∉ ex->∃ sl,h'.get? b=some { o with slots:=sl }
 free:∀ b o,h.get? b=some o->H b=none->b ∉ ex->H' b=none
 there:∀ b o,h.get? b=some o->b ∉ ex->∃ o',h'.get? b=some o'
 tups:∀ b xs,H b=some (.tup xs)->H' b=some (.tup xs)
 frzs:∀ b o u,H b=some (.frz o u)->H' b=some (.frz o u)
 tbls:∀ b ps,H b=some (.tbl ps)->∃ more,H' b=some (.tbl (ps++more))
section
variable {fs fs' ex ex':List Addr}{H H1 H2:Hp}{h h1 h2 h':Heap}{a x e:Addr}{o:HO}
def Un.any(u:Un fs ex H H1 h h1){b:Addr}{ob:Obj}(q:h.get? b=some ob)(n:H b=none)(hx:b ∉ ex):∃ sl,h1.get? b=some { ob with slots:=sl }:=by
 by_cases hb:b∈fs
 ·exact u.slot b ob q n hb hx
 ·exact⟨ob.slots,u.keep b ob q n hb hx⟩
def Un.trans(a:Un fs ex H H1 h h1)(b:Un fs ex H1 H2 h1 h2):Un fs ex H H2 h h2 where
 keep:=λ c ob q n hc hx=>b.keep c ob (a.keep c ob q n hc hx) (a.free c ob q n hx) hc hx
 slot:=λ c ob q n hc hx=>by
  obtain⟨sl,e1⟩:=a.slot c ob q n hc hx;obtain⟨aS,e2⟩:=b.slot c _ e1 (a.free c ob q n hx) hc hx;exact⟨aS,e2⟩
 free:=λ c ob q n hx=>by
  obtain⟨o',e1⟩:=a.there c ob q hx;exact b.free c o' e1 (a.free c ob q n hx) hx
 there:=λ c ob q hx=>by
  obtain⟨o',e1⟩:=a.there c ob q hx;exact b.there c o' e1 hx
 tups:=λ c xs q=>b.tups c xs (a.tups c xs q)
 frzs:=λ c ob xs q=>b.frzs c ob xs (a.frzs c ob xs q)
 tbls:=λ c ps q=>by
  obtain⟨m1,e1⟩:=a.tbls c ps q;obtain⟨m2,e2⟩:=b.tbls c _ e1;exact⟨m1++m2,by rw [e2,Array.append_assoc]⟩
def Un.kept(k:∀ b u,h.get? b=some u->h'.get? b=some u):Un fs ex H H h h':=
 ⟨λ b ob q _ _ _=>k b ob q,λ b ob q _ _ _=>⟨ob.slots,k b ob q⟩,λ _ _ _ n _=>n,λ b ob q _=>⟨ob,k b ob q⟩,λ _ _ q=>q,λ _ _ _ q=>q,λ _ ps q=>⟨#[],by rw [q];simp⟩⟩
def Un.refl:Un fs ex H H h h:=Un.kept λ _ _ q=>q
def Un.laid(k:∀ b u,h.get? b=some u->h'.get? b=some u)(hp:h.objs.size<=a)(hn:H a=none):Un fs ex H (upd H a o) h h' where
 keep:=λ b u q _ _ _=>k b u q
 slot:=λ b u q _ _ _=>⟨u.slots,k b u q⟩
 free:=λ b u q n _=>by rw [ah (RC (RD (Rk q) hp))];exact n
 there:=λ b u q _=>⟨u,k b u q⟩
 tups:=λ b xs q=>by rw [ah (cg q hn)];exact q
 frzs:=λ b u xs q=>by rw [ah (cg q hn)];exact q
 tbls:=λ b ps q=>⟨#[],by rw [ah (cg q hn),q];simp⟩
def Un.write(mu:Mut (H x))(he:e=x\/H e=some (.own x))(k:∀ b u,b ≠ e->h.get? b=some u->h'.get? b=some u)(aS:∃ u,h'.get? e=some u):Un fs ex H (upd H x o) h h':=by
 have hx:∀ b,H b=none->b ≠ x:=λ b n z=>by subst z;rw [n] at mu;exact mu
 have hb:∀ b,H b=none->b ≠ e:=λ b n z=>by
  subst z
  rcases he with r|r
  ·exact hx b n r
  ·rw [n] at r;cases r
 have hm:∀ b u,H b=some u->¬ Mut (some u)->b ≠ x:=λ b u q nm z=>by subst z;rw [q] at mu;exact nm mu
 refine⟨λ b u q n _ _=>k b u (hb b n) q,λ b u q n _ _=>⟨u.slots,k b u (hb b n) q⟩,λ b u q n _=>by rw [ah (hx b n)];exact n,λ b u q _=>?_,
  λ b xs q=>by rw [ah (hm b _ q λ z=>z)];exact q,λ b u xs q=>by rw [ah (hm b _ q λ z=>z)];exact q,λ b ps q=>⟨#[],by rw [ah (hm b _ q λ z=>z),q];simp⟩⟩
 by_cases hbe:b=e
 ·subst hbe;exact aS
 ·exact⟨u,k b u hbe q⟩
end
def trk(h:Heap)(H:Hp):List Addr:=(List.range h.objs.size).filter λ a=>(H a).isSome
def BU(h:Heap)(H:Hp):Heap:=W.hideAll h (trk h H)
def Bo(h:Heap)(H:Hp):(BU h H).objs.size=h.objs.size:=W.hideAll_size _ _
def El{h:Heap}{H:Hp}{b:Addr}{o:Obj}(e:h.get? b=some o)(n:H b=none):(BU h H).get? b=some o:=
 W.hideAll_get _ e λ hm=>by
  have q:(H b).isSome=true:=(Sl.mp hm).2;rw [n] at q;simp at q
def HB{h:Heap}{H:Hp}{b:Addr}{o:Obj}(e:(BU h H).get? b=some o):h.get? b=some o/\H b=none:=by
 have e':h.get? b=some o:=W.of_hideAll (trk h H) e;refine⟨e',?_⟩
 cases q:H b with
 | none=>rfl
 | some x=>
  have hm:b∈trk h H:=Sl.mpr ⟨RO.mpr (Rk e'),by simp [q]⟩;have z:(BU h H).get? b=none:=W.hideAll_none (trk h H) hm;rw [z] at e;cases e
def JI(g h:Heap)(L:Addr):List (Addr × Obj):=(List.range h.objs.size).filterMap λ a=>if a=L\/(g.get? a).isSome=true then none else (h.get? a).map λ o=>(a,o)
def pE(g h:Heap)(L d:Addr):List (Addr × Obj):=(JI g h L).filter λ p=>decide (p.1 ≠ d)
structure Mod(K:W.Frag)(mg:Str->Option Value)(base:Heap):Prop where
 kin:K.In base
 glob:base.Ns mainGlobals mg
 blt:∃ mb,base.Ns builtinsNs mb/\∀ x:Str,x ≠ "__name__" → mb x=bootBuiltins x
 nolimit:base.NoLimit
structure Cx where
 prog:Program
 w:World
 K:W.Frag
 mg:Str->Option Value
 base:Heap
 A:Around
 N:List Str
 s₀:Shared
 H₀:Hp
 env:Env
 outer:List Env
 stack:List Env
 ex:List Addr
 fn:Str->Bool
 calm:Bool
 pn:List (Addr × Obj)
 xe:Value->Shared->Prop
def frs(l:List Env):List Addr:=l.filterMap (·.frame)
abbrev Cx.fs(X:Cx):List Addr:=frs X.outer
def Vis(sc:Scope)(x:Str):Prop:=sc.names.lookup x=some .local\/sc.names.lookup x=some .cell\/sc.names.lookup x=some .free
def Loc(sc:Scope)(x:Str):Prop:=sc.names.lookup x=some .local\/sc.names.lookup x=some .cell
def Q6(env:Env)(h:Heap)(m:Str->Option Value)(x:Str)(u:Value):Prop:=
 (env.kindOf x=some .local/\m x=some u)\/((env.kindOf x=some .cell\/env.kindOf x=some .free)/\∃ c,env.cells.lookup x=some c/\h.IsCell c (some u))
structure Cx.Ok(X:Cx):Prop where
 mod:Mod X.K X.mg X.base
 kind:X.env.scope.kind=.function
 glob:X.env.globals=mainGlobals
 blt:X.env.builtins=builtinsNs
 above:X.s₀.heap.objs.size<=X.env.locals
 inj:∀ x y c,X.env.cells.lookup x=some c->X.env.cells.lookup y=some c->x=y
 has:∀ x,(X.env.kindOf x=some .cell\/X.env.kindOf x=some .free)->∃ c,X.env.cells.lookup x=some c
 cab:∀ x c,X.fn x=true->X.env.cells.lookup x=some c->X.s₀.heap.objs.size<=c
 hd:X.calm=true->X.A.handled=none
 frames:X.A.frames=some X.stack
 stk:X.stack=X.outer\/(X.stack=X.env::X.outer/\X.env.frame=some X.env.locals)
 exf:∀ b∈X.ex,b ≠ X.env.locals/\∀ x c,X.env.cells.lookup x=some c->c ≠ b
 bs:∀ b o,X.base.get? b=some o->X.s₀.heap.get? b=some o/\X.H₀ b=none
 bsz:X.base.objs.size<=X.s₀.heap.objs.size
 noex:∀ b o,X.base.get? b=some o->b ∉ X.ex
 exfs:∀ b∈X.ex,b ∉ X.fs
 funs:X.s₀.heap.FunFrames X.base X.outer
 frf:∀ b∈X.fs,X.H₀ b=none
structure Inv(X:Cx)(pins:List (Addr × Obj))(σ:List (Option V))(H:Hp)(s:Shared):Prop where
 ok:X.Ok
 os:s.os=X.s₀.os
 bare:AllBare s.gens
 base:Un X.fs X.ex X.H₀ H X.s₀.heap s.heap
 loc:∃ m,s.heap.Ns X.env.locals m/\∀ (i:Nat) (x:Str) (v:V),X.N[i]? = some x->σ[i]? = some (some v)->Vis X.env.scope x->∃ u,bD v u/\Q6 X.env s.heap m x u
 cell:∀ x c,X.env.cells.lookup x=some c->∃ v,s.heap.IsCell c v
 free:H X.env.locals=none
 freeC:∀ x c,X.env.cells.lookup x=some c->H c=none
 pin:∀ p∈X.pn++pins,s.heap.get? p.1=some p.2/\H p.1=none/\p.1 ≠ X.env.locals/\p.1 ∉ X.fs/\∀ v,p.2.data ≠ .cell v
 hok:HOk X.prog X.w H s.heap
 len:σ.length=X.N.length
section
variable {X:Cx}{pins:List (Addr × Obj)}{σ:List (Option V)}{H H':Hp}{s:Shared}{h':Heap}
def Cx.Ok.nofr(ok:X.Ok){b:Addr}{o:Obj}(e:X.base.get? b=some o):b ∉ X.fs:=λ hb=>by
 have:=(ok.funs.mem hb).1;rw [e] at this;cases this
def Inv.bs(I:Inv X pins σ H s):∀ b o,X.base.get? b=some o->s.heap.get? b=some o/\H b=none:=λ b o e=>
 ⟨I.base.keep b o (I.ok.bs b o e).1 (I.ok.bs b o e).2 (I.ok.nofr e) (I.ok.noex b o e),I.base.free b o (I.ok.bs b o e).1 (I.ok.bs b o e).2 (I.ok.noex b o e)⟩
def Inv.bk(I:Inv X pins σ H s):∀ b o,X.base.get? b=some o->s.heap.get? b=some o:=λ b o e=>(I.bs b o e).1
def Inv.mod(I:Inv X pins σ H s):Mod X.K X.mg X.base:=I.ok.mod
def Inv.kIn(I:Inv X pins σ H s):X.K.In s.heap:=I.ok.mod.kin.keeps I.bk
def Inv.lt(I:Inv X pins σ H s):X.env.locals < s.heap.objs.size:=let ⟨_,hn,_⟩:=I.loc;hn.lt
def Inv.sz(I:Inv X pins σ H s):X.s₀.heap.objs.size<=s.heap.objs.size:=Sj I.ok.above (Ue I.lt)
def Inv.nofs(I:Inv X pins σ H s){a:Addr}(h:s.heap.objs.size<=a):a ∉ X.fs:=λ hb=>by
 obtain⟨_,o,ho,_⟩:=I.ok.funs.mem hb;exact absurd (RD (Rk ho) (Sj I.sz h)) (R9 _)
def Inv.cne(I:Inv X pins σ H s):∀ x c,X.env.cells.lookup x=some c->c ≠ X.env.locals:=λ x c e z=>by
 obtain⟨v,o,ho,hd⟩:=I.cell x c e;obtain⟨m,⟨o',es,ep,aS,aX,_⟩,_⟩:=I.loc;rw [z,aS] at ho;cases ho;rw [aX] at hd;cases hd
def Inv.funs(I:Inv X pins σ H s):s.heap.FunFrames X.base X.outer:=by
 have all:∀ (l:List Env),(∀ b∈frs l,b∈X.fs)->X.s₀.heap.FunFrames X.base l->s.heap.FunFrames X.base l:=by
  intro l
  induction l with
  | nil=>intro _ _;trivial
  | cons env r ih=>
   intro hs hl;obtain⟨hk,⟨L,o,hf,hn,ho,hd⟩,hr⟩:=hl;have hL:L∈X.fs:=hs L (by unfold frs;rw [filterMap_cons,hf];exact mem_cons_self);obtain⟨sl,e⟩:=I.base.slot L o ho (I.ok.frf L hL) hL λ z=>I.ok.exfs L z hL;exact⟨hk,⟨L,_,hf,hn,e,hd⟩,ih (λ b hb=>hs b (by unfold frs;rw [filterMap_cons,hf];exact mem_cons_of_mem _ hb)) hr⟩
 exact all X.outer (λ _ hb=>hb) I.ok.funs
def Inv.stack(I:Inv X pins σ H s):s.heap.FunFrames X.base X.stack:=by
 rcases I.ok.stk with e|⟨e,hf⟩
 ·rw [e];exact I.funs
 ·rw [e];obtain⟨m,hn,_⟩:=I.loc;refine .cons (by rw [I.ok.kind];decide) hf hn ?_ I.funs;exact Vt (Sj I.ok.bsz I.ok.above)
def Inv.stkSub(I:Inv X pins σ H s):∀ b∈frs X.stack,b∈X.env.locals::X.fs:=λ b hb=>by
 rcases I.ok.stk with e|⟨e,hf⟩
 ·rw [e] at hb;exact Ro _ hb
 ·rw [e] at hb;unfold frs at hb;rw [filterMap_cons,hf] at hb;exact hb
def Inv.stkFree(I:Inv X pins σ H s):∀ b∈frs X.stack,H b=none:=λ b hb=>by
 rcases Rz.mp (I.stkSub b hb) with e|hb
 ·rw [e];exact I.free
 ·obtain⟨_,o,ho,_⟩:=I.ok.funs.mem hb;exact I.base.free b o ho (I.ok.frf b hb) λ z=>I.ok.exfs b z hb
def Inv.step{g':Array GenState}{t':Nat}{d':Drawn}{ch:List Addr}(I:Inv X pins σ H s)
  (aS:∀ b∈ch,(b∈X.ex\/X.s₀.heap.objs.size<=b)/\b ≠ X.env.locals/\(∀ x c,X.env.cells.lookup x=some c->c ≠ b)/\∀ p∈X.pn++pins,p.1 ≠ b)
  (keep:∀ b o,b ≠ X.env.locals->b ∉ X.fs->b ∉ ch->s.heap.get? b=some o->H b=none->h'.get? b=some o)
  (slot:∀ b o,b ≠ X.env.locals->b∈X.fs->b ∉ ch->s.heap.get? b=some o->H b=none->∃ sl,h'.get? b=some { o with slots:=sl }) (free:∀ b o,b ∉ ch->s.heap.get? b=some o->H b=none->H' b=none)
  (there:∀ b o,b ∉ ch->s.heap.get? b=some o->∃ o',h'.get? b=some o')
  (tups:∀ b xs,H b=some (.tup xs)->H' b=some (.tup xs)) (frzs:∀ b o u,H b=some (.frz o u)->H' b=some (.frz o u)) (tbls:∀ b ps,H b=some (.tbl ps)->∃ more,H' b=some (.tbl (ps++more)))
  (ns:∀ m,s.heap.Ns X.env.locals m->h'.Ns X.env.locals m) (hok:HOk X.prog X.w H' h') (hg:AllBare g') :
  Inv X pins σ H' { s with heap:=h',gens:=g',drawn:=d',toks:=t' }:=by
 have a4:∀ b o,X.s₀.heap.get? b=some o->b ≠ X.env.locals:=λ b o e=>RC (RD (Rk e) I.ok.above)
 have a3:∀ b o,X.s₀.heap.get? b=some o->b ∉ X.ex->b ∉ ch:=λ b o e hx hb=>by
  rcases (aS b hb).1 with z|z
  ·exact hx z
  ·exact absurd (RD (Rk e) z) (R9 _)
 have cellK:∀ x c,X.env.cells.lookup x=some c->∀ v,s.heap.IsCell c v->h'.IsCell c v:=λ x c e v ⟨o,ho,hd⟩=>by
  have aX:c ∉ ch:=λ z=>(aS c z).2.2.1 x c e rfl
  by_cases hc:c∈X.fs
  ·obtain⟨sl,q⟩:=slot c o (I.cne x c e) hc aX ho (I.freeC x c e);exact⟨_,q,hd⟩
  ·exact⟨o,keep c o (I.cne x c e) hc aX ho (I.freeC x c e),hd⟩
 refine⟨I.ok,I.os,hg,⟨λ b o e n hb hx=>?_,λ b o e n hb hx=>?_,λ b o e n hx=>?_,λ b o e hx=>?_,λ b xs e=>tups b xs (I.base.tups b xs e),λ b o xs e=>frzs b o xs (I.base.frzs b o xs e),λ b ps e=>?_⟩,?_,λ x c e=>?_,?_,λ x c e=>?_,λ p hp=>?_,hok,I.len⟩
 ·exact keep b o (a4 b o e) hb (a3 b o e hx) (I.base.keep b o e n hb hx) (I.base.free b o e n hx)
 ·obtain⟨sl,e1⟩:=I.base.slot b o e n hb hx;obtain⟨a5,e2⟩:=slot b _ (a4 b o e) hb (a3 b o e hx) e1 (I.base.free b o e n hx);exact⟨a5,e2⟩
 ·obtain⟨o',e1⟩:=I.base.there b o e hx;exact free b o' (a3 b o e hx) e1 (I.base.free b o e n hx)
 ·obtain⟨o',e1⟩:=I.base.there b o e hx;exact there b o' (a3 b o e hx) e1
 ·obtain⟨m1,e1⟩:=I.base.tbls b ps e;obtain⟨m2,e2⟩:=tbls b _ e1;exact⟨m1++m2,by rw [e2,Array.append_assoc]⟩
 ·obtain⟨m,hn,hl⟩:=I.loc;refine⟨m,ns m hn,λ i x v e1 e2 e3=>?_⟩;obtain⟨u,r,l⟩:=hl i x v e1 e2 e3;refine⟨u,r,?_⟩
  rcases l with l|⟨k,c,e,z⟩
  ·exact .inl l
  ·exact .inr ⟨k,c,e,cellK x c e _ z⟩
 ·obtain⟨v,z⟩:=I.cell x c e;exact⟨v,cellK x c e v z⟩
 ·obtain⟨m,⟨o,_,_,ho,_⟩,_⟩:=I.loc;exact free _ o (λ z=>(aS _ z).2.1 rfl) ho I.free
 ·obtain⟨v,o,ho,hd⟩:=I.cell x c e;exact free c o (λ z=>(aS c z).2.2.1 x c e rfl) ho (I.freeC x c e)
 ·obtain⟨e,n,ne,nf,d⟩:=I.pin p hp;have aX:p.1 ∉ ch:=λ z=>(aS p.1 z).2.2.2 p hp rfl;exact⟨keep p.1 p.2 ne nf aX e n,free p.1 p.2 aX e n,ne,nf,d⟩
def Inv.un{t':Nat}(I:Inv X pins σ H s)(u:Un X.fs [] H H' s.heap h')(hok:HOk X.prog X.w H' h'):Inv X pins σ H' { s with heap:=h',toks:=t' }:=by
 obtain⟨m,⟨o,es,ep,ho,r⟩,_⟩:=id I.loc;obtain⟨sl,hL⟩:=u.any ho I.free (by simp)
 exact I.step (g':=s.gens) (d':=s.drawn) (ch:=[]) (λ _ z=>nomatch z) (λ b o _ hb _ e n=>u.keep b o e n hb (by simp)) (λ b o _ hb _ e n=>u.slot b o e n hb (by simp)) (λ b o _ e n=>u.free b o e n (by simp)) (λ b o _ e=>u.there b o e (by simp)) u.tups u.frzs u.tbls (λ m' hm=>by
  obtain⟨o',aX,a3,aS,r'⟩:=hm;rw [ho] at aS;cases aS;exact⟨_,aX,a3,hL,r'⟩) hok I.bare
def Inv.call{g':Array GenState}{t':Nat}{d':Drawn}{ch:List Addr}(I:Inv X pins σ H s)(u:Un (frs X.stack) ch H H' s.heap h')(hok:HOk X.prog X.w H' h')(hg:AllBare g')
  (aS:∀ b∈ch,(b∈X.ex\/X.s₀.heap.objs.size<=b)/\b ≠ X.env.locals/\(∀ x c,X.env.cells.lookup x=some c->c ≠ b)/\∀ p∈X.pn++pins,p.1 ≠ b) :
  Inv X pins σ H' { s with heap:=h',gens:=g',drawn:=d',toks:=t' }:=by
 obtain⟨m,⟨o,es,ep,ho,r⟩,_⟩:=id I.loc;obtain⟨sl,hL⟩:=u.any ho I.free λ z=>(aS _ z).2.1 rfl
 exact I.step (ch:=ch) aS (λ b o hL hb hc e n=>u.keep b o e n (λ z=>(Rz.mp (I.stkSub b z)).elim hL hb) hc) (λ b o _ _ hc e n=>u.any e n hc) (λ b o hc e n=>u.free b o e n hc) (λ b o hc e=>u.there b o e hc) u.tups u.frzs u.tbls (λ m' hm=>by
  obtain⟨o',a3,a4,aX,r'⟩:=hm;rw [ho] at aX;cases aX;exact⟨_,a3,a4,hL,r'⟩) hok hg
def Inv.turned{t':Nat}{it:Addr}(I:Inv X pins σ H s)(k:∀ b o,b ≠ it->s.heap.get? b=some o->h'.get? b=some o)(hn:H it=none)(hL:it ≠ X.env.locals)
  (h1:it∈X.ex\/X.s₀.heap.objs.size<=it) (h2:∀ x c,X.env.cells.lookup x=some c->c ≠ it) (h3:∀ p∈X.pn++pins,p.1 ≠ it):Inv X pins σ H { s with heap:=h',toks:=t' }:=by
 have aS:∀ b u,H b=some u->b ≠ it:=λ b u e z=>by rw [z,hn] at e;cases e
 refine I.step (g':=s.gens) (d':=s.drawn) (ch:=[it]) (λ b hb=>?_) (λ b o _ _ hc e _=>k b o (λ z=>hc (by simp [z])) e) (λ b o _ _ hc e _=>⟨o.slots,k b o (λ z=>hc (by simp [z])) e⟩) (λ _ _ _ _ n=>n)
  (λ b o hc e=>⟨o,k b o (λ z=>hc (by simp [z])) e⟩) (λ _ _ e=>e) (λ _ _ _ e=>e) (λ b ps e=>⟨#[],by rw [e];simp⟩) (λ m hm=>?_) (λ b u e=>?_) I.bare
 ·have e:b=it:=by simpa using hb
  subst e;exact⟨h1,hL,h2,h3⟩
 ·obtain⟨o,es,ep,ho,r⟩:=hm;exact⟨o,es,ep,k _ o (Ru hL) ho,r⟩
 ·refine(I.hok b u e).stay (λ c v hc q=>k c v ?_ q) (λ _ q=>q) λ _ _ q=>q
  rcases hc with z|z
  ·rw [z];exact aS b u e
  ·exact aS c _ z
def Inv.tok(I:Inv X pins σ H s)(t:Nat):Inv X pins σ H { s with toks:=t }:=I.un (h':=s.heap) (t':=t) Un.refl I.hok
def Inv.kept{t':Nat}(I:Inv X pins σ H s)(k:∀ b u,s.heap.get? b=some u->h'.get? b=some u):Inv X pins σ H { s with heap:=h',toks:=t' }:=I.un (Un.kept k) (I.hok.kept k)
def Inv.laid{a:Addr}{o:HO}{t':Nat}(I:Inv X pins σ H s)(k:∀ b u,s.heap.get? b=some u->h'.get? b=some u)(hp:s.heap.objs.size<=a)(new:bW X.prog X.w (upd H a o) h' a o) :
  Inv X pins σ (upd H a o) { s with heap:=h',toks:=t' }:=I.un (Un.laid k hp (I.hok.fresh hp)) (I.hok.laid k hp new)
def Inv.write{x e:Addr}{o:HO}{t':Nat}(I:Inv X pins σ H s)(mu:Mut (H x))(he:e=x\/H e=some (.own x))(k:∀ b u,b ≠ e->s.heap.get? b=some u->h'.get? b=some u)(aS:∃ u,h'.get? e=some u)
  (new:bW X.prog X.w (upd H x o) h' x o):Inv X pins σ (upd H x o) { s with heap:=h',toks:=t' }:=I.un (Un.write mu he k aS) (I.hok.write mu he k aS new)
def Inv.weak{σ':List (Option V)}(I:Inv X pins σ H s)(hl:σ'.length=σ.length)(w:∀ (i:Nat) v,σ'[i]? = some (some v)->σ[i]? = some (some v)):Inv X pins σ' H s:=
 ⟨I.ok,I.os,I.bare,I.base,let ⟨m,hn,hl'⟩:=I.loc;⟨m,hn,λ i x v e1 e2 e3=>hl' i x v e1 (w i v e2) e3⟩,I.cell,I.free,I.freeC,I.pin,I.hok,hl.trans I.len⟩
def Inv.pins_of{aS:List (Addr × Obj)}(I:Inv X pins σ H s)(h:∀ p∈aS,s.heap.get? p.1=some p.2/\H p.1=none/\p.1 ≠ X.env.locals/\p.1 ∉ X.fs/\∀ v,p.2.data ≠ .cell v):Inv X aS σ H s:=
 ⟨I.ok,I.os,I.bare,I.base,I.loc,I.cell,I.free,I.freeC,λ p hp=>(RQ.mp hp).elim (λ z=>I.pin p (RB _ z)) (h p),I.hok,I.len⟩
def uP{N:List Str}(hN:N.Nodup){i j:Nat}{x:Str}(a:N[i]? = some x)(b:N[j]? = some x):i=j:=by
 obtain⟨h1,e1⟩:=Rf.mp a;obtain⟨h2,e2⟩:=Rf.mp b;exact(Uj hN).mp (e1.trans e2.symm)
def p7{M:Model}{A:Around}{E:Value->Shared->Prop}{i:Nat}{x:Str}{v:V}{u:Value}{Q:Unit->Shared->Prop}(I:Inv X pins σ H s)(hN:X.N.Nodup)(hi:X.N[i]? = some x)(hx:Loc X.env.scope x)(r:bD v u)
  (h:∀ s',Inv X pins (σ.set i (some v)) H s'->(∃ a,Heap.SameBut a s.heap s'.heap/\(a=X.env.locals\/X.env.cells.lookup x=some a))->Q () s') (hf:X.fn x=true\/X.env.scope.names.lookup x=some .local:=by first|exact .inl rfl|exact .inr rfl|assumption):wpAny M A (storeName X.env x u) Q E s:=by
 obtain⟨m,hn,hl⟩:=id I.loc;have a3:(X.env.scope.kind == .class || (X.env.scope.kind == .module && X.env.locals != X.env.globals))=false:=by rw [I.ok.kind];rfl
 have a4:i < σ.length:=by rw [I.len];exact(Rf.mp hi).1
 have cne:=I.cne
 have tracked:∀ {a:Addr} {h':Heap},(∃ o,s.heap.get? a=some o/\H a=none)->Heap.SameBut a s.heap h'->HOk X.prog X.w H h':=λ {a h'} ha hs b ob e=>by
  obtain⟨_,_,aS⟩:=ha;refine(I.hok b ob e).stay (λ c w' hc q=>(hs.2 c ?_).trans q) (λ _ q=>q) λ _ _ q=>q;rintro rfl
  rcases hc with rfl|hc
  ·rw [aS] at e;cases e
  ·rw [aS] at hc;cases hc
 rcases hx with hk|hk
 ·refine wpAny_storeName_local hk hn (λ h' a8 hs=>?_) a3;obtain⟨oL,_,_,a9,_⟩:=id hn;refine h _ ⟨I.ok,I.os,I.bare,⟨λ b o e n hb hx=>?_,λ b o e n hb hx=>?_,I.base.free,λ b o e hx=>?_,I.base.tups,I.base.frzs,I.base.tbls⟩,⟨_,a8,λ j y v' e1 e2 e3=>?_⟩,λ y c e=>?_,I.free,I.freeC,λ p hp=>?_,tracked ⟨oL,a9,I.free⟩ hs,by simpa using I.len⟩ ⟨_,hs,.inl rfl⟩
  ·exact(hs.2 b (RC (RD (Rk e) I.ok.above))).trans (I.base.keep b o e n hb hx)
  ·obtain⟨sl,e1⟩:=I.base.slot b o e n hb hx;exact⟨sl,(hs.2 b (RC (RD (Rk e) I.ok.above))).trans e1⟩
  ·obtain⟨o',e1⟩:=I.base.there b o e hx;exact⟨o',(hs.2 b (RC (RD (Rk e) I.ok.above))).trans e1⟩
  ·by_cases hj:j=i
   ·subst hj;rw [hi] at e1;cases e1;rw [List.getElem?_set_self a4] at e2;cases e2;exact⟨u,r,.inl ⟨hk,by simp⟩⟩
   ·rw [List.getElem?_set_ne (Ru hj)] at e2;obtain⟨u',r',q⟩:=hl j y v' e1 e2 e3;refine⟨u',r',?_⟩
    rcases q with ⟨k,e⟩|⟨k,c,e,z⟩
    ·refine .inl ⟨k,?_⟩;have:y ≠ x:=λ e=>hj (uP hN e1 (e ▸ hi));simp [this,e]
    ·exact .inr ⟨k,c,e,z.sameBut hs (cne y c e)⟩
  ·obtain⟨w',z⟩:=I.cell y c e;exact⟨w',z.sameBut hs (cne y c e)⟩
  ·obtain⟨e,n,ne,nf,d⟩:=I.pin p hp;exact⟨(hs.2 p.1 ne).trans e,n,ne,nf,d⟩
 ·have aX:X.fn x=true:=by
   rcases hf with z|z
   ·exact z
   ·rw [z] at hk;cases hk
  obtain⟨c,hc⟩:=I.ok.has x (.inl hk);obtain⟨w',z⟩:=I.cell x c hc;refine wpAny_storeName_cell I.ok.kind hk hc z (λ h' a5 hs=>?_);obtain⟨oc,a6,a7⟩:=id z;refine h { s with heap:=h' } ⟨I.ok,I.os,I.bare,⟨λ b o e n hb hx=>?_,λ b o e n hb hx=>?_,I.base.free,λ b o e hx=>?_,I.base.tups,I.base.frzs,I.base.tbls⟩,⟨m,hn.sameBut hs (Ru (cne x c hc)),λ j y v' e1 e2 e3=>?_⟩,λ y c' e=>?_,I.free,I.freeC,λ p hp=>?_,tracked ⟨oc,a6,I.freeC x c hc⟩ hs,by simpa using I.len⟩ ⟨c,hs,.inr hc⟩
  ·exact(hs.2 b (RC (RD (Rk e) (I.ok.cab x c aX hc)))).trans (I.base.keep b o e n hb hx)
  ·obtain⟨sl,e1⟩:=I.base.slot b o e n hb hx;exact⟨sl,(hs.2 b (RC (RD (Rk e) (I.ok.cab x c aX hc)))).trans e1⟩
  ·obtain⟨o',e1⟩:=I.base.there b o e hx;exact⟨o',(hs.2 b (RC (RD (Rk e) (I.ok.cab x c aX hc)))).trans e1⟩
  ·by_cases hj:j=i
   ·subst hj;rw [hi] at e1;cases e1;rw [List.getElem?_set_self a4] at e2;cases e2;exact⟨u,r,.inr ⟨.inl hk,c,hc,a5⟩⟩
   ·rw [List.getElem?_set_ne (Ru hj)] at e2;obtain⟨u',r',q⟩:=hl j y v' e1 e2 e3;refine⟨u',r',?_⟩
    rcases q with q|⟨k,c',e,z'⟩
    ·exact .inl q
    ·refine .inr ⟨k,c',e,z'.sameBut hs ?_⟩;rintro rfl;exact hj (uP hN e1 (I.ok.inj _ _ _ e hc ▸ hi))
  ·by_cases hcc:c'=c
   ·subst hcc;exact⟨_,a5⟩
   ·obtain⟨w2,z2⟩:=I.cell y c' e;exact⟨w2,z2.sameBut hs hcc⟩
  ·obtain⟨e,n,ne,nf,d⟩:=I.pin p hp;refine⟨(hs.2 p.1 ?_).trans e,n,ne,nf,d⟩;intro q;rw [q,a6] at e;have q':oc=p.2:=RE e;exact d w' (by rw [←q'];exact a7)
def uH{M:Model}{A:Around}{E:Value->Shared->Prop}{i:Nat}{x:Str}{v:V}{u:Value}{Q:Unit->Shared->Prop}(I:Inv X pins σ H s)(hN:X.N.Nodup)(hi:X.N[i]? = some x)(hx:Loc X.env.scope x)(r:bD v u)
  (h:∀ s',Inv X pins (σ.set i (some v)) H s'->Q () s') (hf:X.fn x=true\/X.env.scope.names.lookup x=some .local:=by first|exact .inl rfl|exact .inr rfl|assumption):wpAny M A (storeName X.env x u) Q E s:=
 p7 I hN hi hx r (λ s' I' _=>h s' I') hf
def Inv.call'{s':Shared}{ch:List Addr}(I:Inv X pins σ H s)(ho:s'.os=s.os)(u:Un (frs X.stack) ch H H' s.heap s'.heap)(hok:HOk X.prog X.w H' s'.heap)(hg:AllBare s'.gens)
  (aS:∀ b∈ch,(b∈X.ex\/X.s₀.heap.objs.size<=b)/\b ≠ X.env.locals/\(∀ x c,X.env.cells.lookup x=some c->c ≠ b)/\∀ p∈X.pn++pins,p.1 ≠ b):Inv X pins σ H' s':=by
 obtain⟨h',g',d',t',o'⟩:=s';have e:o'=s.os:=ho;subst e;exact I.call (g':=g') (t':=t') (d':=d') u hok hg aS
end
abbrev XK:=Value->Option Addr->Hp->Prop
abbrev St:=List (Option V)
abbrev VK:=V->Hp->Prop
abbrev TE:=St->Hp->VK->Prop
abbrev TT:=St->Hp->(Bool->Hp->Prop)->Prop
abbrev TA:=St->Hp->(List V->Hp->Prop)->Prop
structure uj where
 nx:St->Hp->Prop
 rt:VK
 bk:St->Hp->Prop:=λ _ _=>False
 ct:St->Hp->Prop:=λ _ _=>False
abbrev TS:=uj->St->Hp->Prop
def EP(X:Cx)(pins:List (Addr × Obj))(σ:St)(Q:VK)(u:Value)(s':Shared):Prop:=∃ v H',Inv X pins σ H' s'/\bD v u/\Q v H'
def TP(X:Cx)(pins:List (Addr × Obj))(σ:St)(Q:Bool->Hp->Prop)(b:Bool)(s':Shared):Prop:=∃ H',Inv X pins σ H' s'/\Q b H'
def AP(X:Cx)(pins:List (Addr × Obj))(σ:St)(Q:List V->Hp->Prop)(us:List Value)(s':Shared):Prop:=∃ vs H',Inv X pins σ H' s'/\aU vs us/\Q vs H'
def SP(X:Cx)(pins:List (Addr × Obj))(D:uj)(f:Flow)(s':Shared):Prop:=
 match f with
 | .next=>∃ σ' H',Inv X pins σ' H' s'/\D.nx σ' H'
 | .brk=>∃ σ' H',Inv X pins σ' H' s'/\D.bk σ' H'
 | .cont=>∃ σ' H',Inv X pins σ' H' s'/\D.ct σ' H'
 | .ret u=>∃ v σ' H',Inv X pins σ' H' s'/\bD v u/\D.rt v H'
def PE(X:Cx)(e:Expr)(t:TE):Prop:=
 ∀ (pins:List (Addr × Obj)) (s:Shared) (σ:St) (H:Hp) (Q:VK),Inv X pins σ H s->t σ H Q->wpAny (model X.prog X.w) X.A (eval e X.env) (EP X pins σ Q) X.xe s
def PT(X:Cx)(e:Expr)(t:TT):Prop:=
 ∀ (pins:List (Addr × Obj)) (s:Shared) (σ:St) (H:Hp) (Q:Bool->Hp->Prop),Inv X pins σ H s->t σ H Q->wpAny (model X.prog X.w) X.A (isTrue e X.env (eval e X.env)) (TP X pins σ Q) X.xe s
def PW(X:Cx)(e:Expr)(t:TT):Prop:=
 ∀ (whole:Sem Value) (pins:List (Addr × Obj)) (s:Shared) (σ:St) (H:Hp) (Q:Bool->Hp->Prop),Inv X pins σ H s->t σ H Q->wpAny (model X.prog X.w) X.A (isTrue e X.env whole) (TP X pins σ Q) X.xe s
def PW.pt{X:Cx}{e:Expr}{t:TT}(h:PW X e t):PT X e t:=h _
def PA(X:Cx)(es:List Expr)(t:TA):Prop:=
 ∀ (pos:Pos) (pins:List (Addr × Obj)) (s:Shared) (σ:St) (H:Hp) (Q:List V->Hp->Prop),Inv X pins σ H s->t σ H Q->wpAny (model X.prog X.w) X.A (spliced (backTo pos (starEach es X.env))) (AP X pins σ Q) X.xe s
def PS(X:Cx)(st:Stmt)(t:TS):Prop:=
 ∀ (pins:List (Addr × Obj)) (s:Shared) (σ:St) (H:Hp) (D:uj),Inv X pins σ H s->t D σ H->wpAny (model X.prog X.w) X.A (exec st X.env) (SP X pins D) X.xe s
def PSs(X:Cx)(st:List Stmt)(t:TS):Prop:=
 ∀ (pins:List (Addr × Obj)) (s:Shared) (σ:St) (H:Hp) (D:uj),Inv X pins σ H s->t D σ H->wpAny (model X.prog X.w) X.A (execs st X.env) (SP X pins D) X.xe s
def thn{α:Type}{t:Sem α}{Q Q':α->Shared->Prop}{M:Model}{A:Around}{E:Value->Shared->Prop}{s:Shared}(h:wpAny M A t Q E s)(hQ:∀ a s,Q a s->Q' a s):wpAny M A t Q' E s:=UT h hQ λ _ _ x=>x
section
variable {X:Cx}
def Nf(i:Nat):TE:=λ σ H Q=>∃ v,σ[i]? = some (some v)/\Q v H
def tC(v:V):TE:=λ _ H Q=>Q v H
def La{i:Nat}{x:Str}{pos:Pos}(hN:X.N[i]? = some x)(hv:Vis X.env.scope x)(hd:(x == ("__debug__":Str))=false:=by decide)(aX:(x == ("__classdict__":Str))=false:=by decide):PE X (.Name x pos) (Nf i):=by
 intro pins s σ H Q I h;obtain⟨v,e,h⟩:=h;obtain⟨m,hn,hl⟩:=I.loc;obtain⟨u,r,l⟩:=hl i x v hN e hv;have fin:EP X pins σ Q u s:=⟨v,H,I,r,h⟩
 rcases l with ⟨hk,hm⟩|⟨hk,c,hc,aS⟩
 ·exact wpAny_Name (wpAny_loadName_local I.ok.kind hk hn hm fin) hd
 ·rcases hk with hk|hk
  ·exact wpAny_Name (wpAny_loadName_cell I.ok.kind hk hc aS fin) hd
  ·exact wpAny_Name (wpAny_loadName_free I.ok.kind hk hc aS fin aX) hd
def fZ{i j pos}:PE X (.Constant (.int i) j pos) (tC (.int i)):=λ _ _ _ H _ I h=>wpAny_Constant_int ⟨.int i,H,I.tok _,⟨_,rfl⟩,h⟩
def dw{b j pos}:PE X (.Constant (.bool b) j pos) (tC (.bl b)):=λ _ _ _ H _ I h=>Constant_bool ⟨.bl b,H,I,rfl,h⟩
def mz{j pos}:PE X (.Constant .none j pos) (tC .non):=λ _ _ _ H _ I h=>Constant_none ⟨.non,H,I,rfl,h⟩
def uu{x j pos}:PE X (.Constant (.str x) j pos) (tC (.str x)):=λ _ _ _ H _ I h=>Calls.Constant_str ⟨.str x,H,I.tok _,⟨_,rfl⟩,h⟩
def Gl(X:Cx)(x:Str):Prop:=X.env.kindOf x=some .globalImplicit
def sM{E:Value->Shared->Prop}{pins:List (Addr × Obj)}{s:Shared}{σ:St}{H:Hp}{x:Str}{u:Value}{pos:Pos}{Q:Value->Shared->Prop}(I:Inv X pins σ H s)(hg:Gl X x)(hm:X.mg x=some u)(h:Q u s)
  (hd:(x == ("__debug__":Str))=false:=by decide):wpAny (model X.prog X.w) X.A (eval (.Name x pos) X.env) Q E s:=
 Calls.Name_function_global I.ok.kind hg (Calls.loadGlobal_global (by rw [I.ok.glob];exact I.mod.glob.keeps I.bk) hm h) hd
def eN{E:Value->Shared->Prop}{pins:List (Addr × Obj)}{s:Shared}{σ:St}{H:Hp}{x:Str}{u:Value}{pos:Pos}{Q:Value->Shared->Prop}(I:Inv X pins σ H s)(hg:Gl X x)(hm:X.mg x=none)(hv:bootBuiltins x=some u)(h:Q u s)
  (hn:x ≠ "__name__":=by decide) (hd:(x == ("__debug__":Str))=false:=by decide):wpAny (model X.prog X.w) X.A (eval (.Name x pos) X.env) Q E s:=by
 obtain⟨mb,h1,h2⟩:=I.mod.blt;exact Calls.Name_function_global I.ok.kind hg (Calls.loadGlobal_builtin (by rw [I.ok.glob];exact I.mod.glob.keeps I.bk) hm (by rw [I.ok.blt];exact h1.keeps I.bk) ((h2 x hn).trans hv) h) hd
def nH{x:Str}{v:V}{u:Value}{pos:Pos}(hg:Gl X x)(hm:X.mg x=some u)(r:bD v u)(hd:(x == ("__debug__":Str))=false:=by decide):PE X (.Name x pos) (tC v):=
 λ _ _ _ H _ I h=>sM I hg hm ⟨v,H,I,r,h⟩ hd
def cY{x:Str}{v:V}{u:Value}{pos:Pos}(hg:Gl X x)(hm:X.mg x=none)(hv:bootBuiltins x=some u)(r:bD v u)(hn:x ≠ "__name__":=by decide)(hd:(x == ("__debug__":Str))=false:=by decide):PE X (.Name x pos) (tC v):=
 λ _ _ _ H _ I h=>eN I hg hm hv ⟨v,H,I,r,h⟩ hn hd
variable {a b:Expr}{ta tb:TE}{pos:Pos}
def tB(t:TE):TT:=λ σ H Q=>t σ H λ x H1=>∃ c,x=.bl c/\Q c H1
def K4{e:Expr}{t:TE}(h:PE X e t)(he:∀ whole,isTrue e X.env whole=(do let v ←whole;standAt e.pos;holding [v] (truthy v)):=by intro _;rfl):PT X e (tB t):=by
 intro pins s σ H Q I hw;refine isTrue_plain (thn (h pins s σ H _ I hw) λ v s1 ⟨x,H1,I1,r1,q1⟩=>?_) (he _);obtain⟨d,rfl,q⟩:=q1;cases r1;exact Sq ⟨H1,I1,q⟩
variable {tA tB':TT}{pE:List Expr}
def PX(t u:TT):TT:=λ σ H Q=>t σ H λ c H1=>if c=true then u σ H1 Q else Q false H1
def tOr(t u:TT):TT:=λ σ H Q=>t σ H λ c H1=>if c=true then Q true H1 else u σ H1 Q
def PQ(t:TT):TT:=λ σ H Q=>t σ H λ c H1=>Q (!c) H1
def i9(ha:PT X a tA):PW X (.BoolOp .And [a] pos) tA:=by
 intro wh pins s σ H Q I h;refine isTrue_and (thn (ha pins s σ H Q I h) λ c s1 e=>?_)
 cases c with
 | true=>exact isTrue_and_nil e
 | false=>exact e
def K2(ha:PT X a tA):PW X (.BoolOp .Or [a] pos) tA:=by
 intro wh pins s σ H Q I h;refine isTrue_or (thn (ha pins s σ H Q I h) λ c s1 e=>?_)
 cases c with
 | false=>exact isTrue_or_nil e
 | true=>exact e
def K3(ha:PT X a tA)(hb:PW X (.BoolOp .And (b::pE) pos) tB'):PW X (.BoolOp .And (a::b::pE) pos) (PX tA tB'):=by
 intro wh pins s σ H Q I h;refine isTrue_and (thn (ha pins s σ H _ I h) λ c s1 ⟨H1,I1,q1⟩=>?_)
 cases c with
 | true=>exact hb wh pins s1 σ H1 Q I1 q1
 | false=>exact⟨H1,I1,q1⟩
def OB(ha:PT X a tA)(hb:PW X (.BoolOp .Or (b::pE) pos) tB'):PW X (.BoolOp .Or (a::b::pE) pos) (tOr tA tB'):=by
 intro wh pins s σ H Q I h;refine isTrue_or (thn (ha pins s σ H _ I h) λ c s1 ⟨H1,I1,q1⟩=>?_)
 cases c with
 | true=>exact⟨H1,I1,q1⟩
 | false=>exact hb wh pins s1 σ H1 Q I1 q1
def K5(ha:PT X a tA):PT X (.UnaryOp .Not a pos) (PQ tA):=by
 intro pins s σ H Q I h;exact isTrue_not (ha pins s σ H (λ c H1=>Q (!c) H1) I h)
def Kc(ta tb:TE):TE:=λ σ H Q=>ta σ H λ x H1=>∃ c,x=.bl c/\if c=true then tb σ H1 Q else Q (.bl false) H1
def PN(ta tb:TE):TE:=λ σ H Q=>ta σ H λ x H1=>∃ c,x=.bl c/\if c=true then Q (.bl true) H1 else tb σ H1 Q
def J7(ta:TE):TE:=λ σ H Q=>ta σ H λ x H1=>∃ c,x=.bl c/\Q (.bl (!c)) H1
def Lc{op}{t:TE}(h:PE X a t):PE X (.BoolOp op [a] pos) t:=λ pins s σ H Q I hw=>BoolOp_one (h pins s σ H Q I hw)
def Le(ha:PE X a ta)(hb:PE X (.BoolOp .And (b::pE) pos) tb):PE X (.BoolOp .And (a::b::pE) pos) (Kc ta tb):=by
 intro pins s σ H Q I h;refine BoolOp_and (thn (ha pins s σ H _ I h) λ v s1 ⟨x,H1,I1,r1,q1⟩=>?_);obtain⟨c,rfl,q1⟩:=q1;cases r1;refine Sq ?_
 cases c with
 | true=>exact hb pins s1 σ H1 Q I1 q1
 | false=>exact⟨.bl false,H1,I1,rfl,q1⟩
def OD(ha:PE X a ta)(hb:PE X (.BoolOp .Or (b::pE) pos) tb):PE X (.BoolOp .Or (a::b::pE) pos) (PN ta tb):=by
 intro pins s σ H Q I h;refine BoolOp_or (thn (ha pins s σ H _ I h) λ v s1 ⟨x,H1,I1,r1,q1⟩=>?_);obtain⟨c,rfl,q1⟩:=q1;cases r1;refine Sq ?_
 cases c with
 | false=>exact hb pins s1 σ H1 Q I1 q1
 | true=>exact⟨.bl true,H1,I1,rfl,q1⟩
def Ld(ha:PE X a ta):PE X (.UnaryOp .Not a pos) (J7 ta):=by
 intro pins s σ H Q I h;refine UnaryOp_ (thn (ha pins s σ H _ I h) λ v s1 ⟨x,H1,I1,r1,q1⟩=>?_);obtain⟨c,rfl,q1⟩:=q1;cases r1;exact not_of (Sq ⟨.bl (!c),H1,I1,rfl,q1⟩)
def tIf(t:TT)(ta tb:TE):TE:=λ σ H Q=>t σ H λ c H1=>if c=true then ta σ H1 Q else tb σ H1 Q
def ou{c:Expr}(hc:PT X c tA)(ha:PE X a ta)(hb:PE X b tb):PE X (.IfExp c a b pos) (tIf tA ta tb):=by
 intro pins s σ H Q I h;refine wpAny_IfExp (thn (hc pins s σ H _ I h) λ d s1 ⟨H1,I1,q1⟩=>?_)
 cases d with
 | true=>exact ha pins s1 σ H1 Q I1 q1
 | false=>exact hb pins s1 σ H1 Q I1 q1
end
def SqL(K:W.Frag)(H:Hp)(a:Addr)(xs:List V):Prop:=
 Rd H a (.lst xs) \/
  ∃ (o:Obj) (its:Array Value) (n:Nat),K.lookup a=some o/\o.cls=.type "list" /\ o.dict=none/\o.data=.seq its n/\its.size<=sizeLine/\aU xs its.toList
def SqT(K:W.Frag)(H:Hp)(a:Addr)(xs:List V):Prop:=
 Rd H a (.tup xs) \/
  ∃ (o:Obj) (its:Array Value) (n:Nat),K.lookup a=some o/\o.cls=.type "tuple" /\ o.data=.seq its n/\its.size<=sizeLine/\aU xs its.toList
def Q5:Value->Option V
 | .none=>some .non
 | .bool b=>some (.bl b)
 | .int i _=>some (.int i)
 | .str x _=>some (.str x)
 | .bytes b _=>some (.byt b)
 | .float b _=>some (.flt b)
 | .ref a=>some (.ref a)
 | .type n=>some (.ty n)
 | _=>none
def bD.abs{x:V}{u:Value}(r:bD x u):Q5 u=some x:=by
 cases x with
 | non=>cases r;rfl
 | bl _=>cases r;rfl
 | int _=>obtain⟨t,rfl⟩:=r;rfl
 | str _=>obtain⟨t,rfl⟩:=r;rfl
 | byt _=>obtain⟨t,rfl⟩:=r;rfl
 | flt _=>obtain⟨t,rfl⟩:=r;rfl
 | ref _=>cases r;rfl
 | ty _=>cases r;rfl
def bD.inj{x y:V}{u:Value}(r:bD x u)(q:bD y u):x=y:=RE (r.abs.symm.trans q.abs)
def aU.inj:∀ {xs ys:List V}{us:List Value},aU xs us->aU ys us->xs=ys
 | _,_,_,.nil,.nil=>rfl
 | _,_,_,.cons r t,.cons r' t'=>by rw [r.inj r',aU.inj t t']
section
variable {X:Cx}{pins:List (Addr × Obj)}{σ:St}{H:Hp}{s:Shared}{a:Addr}{xs ys:List V}
def SqL.of{K:W.Frag}(h:H a=some (.lst xs)):SqL K H a xs:=.inl (.inl h)
def SqT.of{K:W.Frag}(h:H a=some (.tup xs)):SqT K H a xs:=.inl (.inl h)
def Inv.list(I:Inv X pins σ H s)(h:SqL X.K H a xs):∃ its:List Value,aU xs its/\PlainL s.heap a its.toArray/\xs.length<=sizeLine:=by
 rcases h with h|⟨o,its,n,hk,hc,hd,hs,hz,r⟩
 ·obtain⟨z,its,n,r,e⟩:=h.ok I.hok;exact⟨its,r,⟨_,n,e,rfl,rfl,rfl⟩,z⟩
 ·refine⟨its.toList,r,⟨o,n,I.kIn a o hk,hc,hd,by simpa using hs⟩,?_⟩;have e:=r.length;simp only [Uv] at e;omega
def Inv.tuple(I:Inv X pins σ H s)(h:SqT X.K H a xs):∃ its:List Value,aU xs its/\IsTup s.heap a its.toArray/\xs.length<=sizeLine:=by
 rcases h with h|⟨o,its,n,hk,hc,hs,hz,r⟩
 ·obtain⟨z,its,r,p⟩:=h.ok I.hok;exact⟨its,r,p,z⟩
 ·refine⟨its.toList,r,⟨o,I.kIn a o hk,hc,n,by simpa using hs⟩,?_⟩;have e:=r.length;simp only [Uv] at e;omega
def Inv.list_inj(I:Inv X pins σ H s)(h:SqL X.K H a xs)(h':SqL X.K H a ys):xs=ys:=by
 obtain⟨its,r,⟨o,n,e,_,_,d⟩,_⟩:=I.list h;obtain⟨its',r',⟨o',n',e',_,_,d'⟩,_⟩:=I.list h';rw [e] at e';cases e';rw [d] at d'
 injection d' with d1 _
 have:its=its':=by simpa using SA Array.toList d1
 subst this;exact r.inj r'
def Inv.tuple_inj(I:Inv X pins σ H s)(h:SqT X.K H a xs)(h':SqT X.K H a ys):xs=ys:=by
 obtain⟨its,r,⟨o,e,_,n,d⟩,_⟩:=I.tuple h;obtain⟨its',r',⟨o',e',_,n',d'⟩,_⟩:=I.tuple h';rw [e] at e';cases e';rw [d] at d'
 injection d' with d1 _
 have:its=its':=by simpa using SA Array.toList d1
 subst this;exact r.inj r'
end
abbrev Cx.wish(X:Cx)(E:Value->Shared->Prop):Cx:={ X with xe:=E }
abbrev Cx.nox(X:Cx):Cx:=X.wish λ _ _=>False
def Cx.Ok.wish{X:Cx}(ok:X.Ok)(E:Value->Shared->Prop):(X.wish E).Ok:=
 ⟨ok.mod,ok.kind,ok.glob,ok.blt,ok.above,ok.inj,ok.has,ok.cab,ok.hd,ok.frames,ok.stk,ok.exf,ok.bs,ok.bsz,ok.noex,ok.exfs,ok.funs,ok.frf⟩
def Cx.Ok.unwish{X:Cx}{E:Value->Shared->Prop}(ok:(X.wish E).Ok):X.Ok:=
 ⟨ok.mod,ok.kind,ok.glob,ok.blt,ok.above,ok.inj,ok.has,ok.cab,ok.hd,ok.frames,ok.stk,ok.exf,ok.bs,ok.bsz,ok.noex,ok.exfs,ok.funs,ok.frf⟩
section
variable {X:Cx}{pins:List (Addr × Obj)}{σ:St}{H:Hp}{s:Shared}{E:Value->Shared->Prop}
def Inv.wish(I:Inv X pins σ H s)(E:Value->Shared->Prop):Inv (X.wish E) pins σ H s:=⟨I.ok.wish E,I.os,I.bare,I.base,I.loc,I.cell,I.free,I.freeC,I.pin,I.hok,I.len⟩
def Inv.unwish(I:Inv (X.wish E) pins σ H s):Inv X pins σ H s:=⟨I.ok.unwish,I.os,I.bare,I.base,I.loc,I.cell,I.free,I.freeC,I.pin,I.hok,I.len⟩
def SP.unwish{D:uj}{f:Flow}{s':Shared}(h:SP (X.wish E) pins D f s'):SP X pins D f s':=by
 cases f with
 | next=>obtain⟨σ',H',I,q⟩:=h;exact⟨σ',H',I.unwish,q⟩
 | brk=>obtain⟨σ',H',I,q⟩:=h;exact⟨σ',H',I.unwish,q⟩
 | cont=>obtain⟨σ',H',I,q⟩:=h;exact⟨σ',H',I.unwish,q⟩
 | ret u=>obtain⟨v,σ',H',I,r,q⟩:=h;exact⟨v,σ',H',I.unwish,r,q⟩
def PSs.nox{st:List Stmt}{t:TS}(h:PSs X.nox st t):PSs X st t:=λ pins s σ H D I hw=>
 UT (h pins s σ H D (I.wish _) hw) (λ _ _ q=>q.unwish) λ _ _ z=>False.elim z
end
section
variable {X:Cx}{st:Stmt}{pE:List Stmt}{t u:TS}{e:Expr}{te:TE}{pos:Pos}
def J8:TS:=λ D σ H=>D.nx σ H
def PL(t u:TS):TS:=λ D σ H=>t { D with nx:=u D } σ H
def au:PSs X [] J8:=λ _ _ σ H _ I h=>Vi ⟨σ,H,I,h⟩
def iD(h1:PS X st t)(h2:PSs X pE u):PSs X (st::pE) (PL t u):=by
 intro pins s σ H D I h;refine wpAny_execs_cons (thn (h1 pins s σ H { D with nx:=u D } I h) λ f s1 q=>?_)
 cases f with
 | next=>
  obtain⟨σ',H',I',q⟩:=q;exact h2 pins s1 σ' H' D I' q
 | ret v=>exact q
 | brk=>exact q
 | cont=>exact q
def nG(h1:PS X st t):PSs X [st] t:=by
 intro pins s σ H D I h;refine wpAny_execs_cons (thn (h1 pins s σ H D I h) λ f s1 q=>?_)
 cases f with
 | next=>exact Vi q
 | ret v=>exact q
 | brk=>exact q
 | cont=>exact q
def Inv.quiet{pins:List (Addr × Obj)}{σ:St}{H:Hp}{s:Shared}(I:Inv X pins σ H s):interactive X.env=false:=by simp [interactive,I.ok.kind]
def J9(te:TE):TS:=λ D σ H=>te σ H λ _ H1=>D.nx σ H1
def He(he:PE X e te)(hs:swapsWith e none pos.line X.env=pure false:=by rfl):PS X (.Expr e pos) (J9 te):=by
 intro pins s σ H D I h;exact wpAny_Expr_any (thn (he pins s σ H _ I h) λ v s1 ⟨x,H1,I1,r1,q1⟩=>⟨σ,H1,I1,q1⟩) I.quiet hs
def PM(te:TE):TS:=λ D σ H=>te σ H D.rt
def xZ(he:PE X e te):PS X (.Return (some e) pos) (PM te):=by
 intro pins s σ H D I h;exact wpAny_Return_some (thn (he pins s σ H _ I h) λ v s1 ⟨x,H1,I1,r1,q1⟩=>⟨x,σ,H1,I1,r1,q1⟩)
def Nh(c:TT)(t u:TS):TS:=λ D σ H=>c σ H λ b H1=>if b=true then t D σ H1 else u D σ H1
def FW{c:Expr}{a b:List Stmt}{tc:TT}(hc:PT X c tc)(ha:PSs X a t)(hb:PSs X b u):PS X (.If c a b pos) (Nh tc t u):=by
 intro pins s σ H D I h;refine wpAny_If (thn (hc pins s σ H _ I h) λ d s1 ⟨H1,I1,q1⟩=>?_)
 cases d with
 | true=>exact ha pins s1 σ H1 D I1 q1
 | false=>exact hb pins s1 σ H1 D I1 q1
def KY:TS:=λ _ _ _=>False
def b7:PS X st KY:=λ _ _ _ _ _ _ h=>h.elim
end
abbrev TG:=V->St->Hp->(St->Hp->Prop)->Prop
abbrev TGs:=List V->St->Hp->(St->Hp->Prop)->Prop
def PG(X:Cx)(target:Expr)(t:TG):Prop:=
 ∀ (pins:List (Addr × Obj)) (s:Shared) (σ:St) (H:Hp) (v:V) (u:Value) (Q:St->Hp->Prop),Inv X pins σ H s->bD v u->t v σ H Q →
  wpAny (model X.prog X.w) X.A (assign target X.env u) (λ _ s'=>∃ σ' H',Inv X pins σ' H' s'/\Q σ' H') X.xe s
def PGs(X:Cx)(ts:List Expr)(t:TGs):Prop:=
 ∀ (pins:List (Addr × Obj)) (s:Shared) (σ:St) (H:Hp) (vs:List V) (us:List Value) (Q:St->Hp->Prop),Inv X pins σ H s->aU vs us->t vs σ H Q →
  wpAny (model X.prog X.w) X.A (assignInOrder ((assignEach ts X.env).map (·.2)) us) (λ _ s'=>∃ σ' H',Inv X pins σ' H' s'/\Q σ' H') X.xe s
abbrev E1:=V->V->V->Hp->(Hp->Prop)->Prop
def QB(X:Cx)(t:E1):Prop:=
 ∀ (pins:List (Addr × Obj)) (s:Shared) (σ:St) (H:Hp) (o i v:V) (ov iv u:Value) (Q:Hp->Prop),Inv X pins σ H s->bD o ov->bD i iv->bD v u->t o i v H Q →
  wpAny (model X.prog X.w) X.A (setItem ov iv u) (λ _ s'=>∃ H',Inv X pins σ H' s'/\Q H') X.xe s
section
variable {X:Cx}{pos:Pos}
def eY(i:Nat):TG:=λ v σ H Q=>Q (σ.set i (some v)) H
def yz{i:Nat}{x:Str}(hN:X.N.Nodup)(hi:X.N[i]? = some x)(hx:Loc X.env.scope x)(hf:X.fn x=true\/X.env.scope.names.lookup x=some .local:=by first|exact .inl rfl|exact .inr rfl|assumption):PG X (.Name x pos) (eY i):=by
 intro pins s σ H v u Q I r h;exact wpAny_assign_Name (uH I hN hi hx r (λ s' I'=>⟨_,H,I',h⟩) hf)
def QA:TGs:=λ vs σ H Q=>vs=[]/\Q σ H
def KH(t:TG)(u:TGs):TGs:=λ vs σ H Q=>∃ v r,vs=v::r/\t v σ H λ σ' H'=>u r σ' H' Q
def Hk:PGs X [] QA:=by
 intro pins s σ H vs us Q I r h;obtain⟨e,h⟩:=h;subst e;cases r;exact assignInOrder_nil ⟨σ,H,I,h⟩
def CP{e:Expr}{es:List Expr}{t:TG}{u:TGs}(h1:PG X e t)(h2:PGs X es u)
  (hs:(assignEach (e::es) X.env).map (·.2)=assign e X.env::(assignEach es X.env).map (·.2):=by rfl):PGs X (e::es) (KH t u):=by
 intro pins s σ H vs us Q I r h;obtain⟨v,vr,e1,h⟩:=h;subst e1
 cases r with
 | cons r rr=>
  rw [hs];refine assignInOrder_cons (thn (h1 pins s σ H _ _ _ I r h) λ _ s1 ⟨σ1,H1,I1,q1⟩=>?_);exact h2 pins s1 σ1 H1 _ _ Q I1 rr q1
def Qy(K:W.Frag)(n:Nat)(t:TGs):TG:=λ v σ H Q=>∃ a xs,v=.ref a/\SqT K H a xs/\xs.length=n/\t xs σ H Q
def K9{es:List Expr}{k:Nat}{t:TGs}{n:Nat}(hc:X.calm=true)(h:PGs X es t)
  (hn:(assignEach es X.env).length=n:=by rfl) (aS:(assignEach es X.env).findIdx? (·.1)=none:=by rfl):PG X (.Tuple es k pos) (Qy X.K n t):=by
 intro pins s σ H v u Q I r hw;obtain⟨a,xs,e1,hq,hl,hw⟩:=hw;subst e1;cases r;obtain⟨its,rv,ht,hz⟩:=I.tuple hq;refine assign_Tuple_tuple (I.ok.hd hc) ht (by simp [hn,←hl,rv.length]) aS λ h' hx=>?_;have I1:Inv X pins σ H { s with heap:=h' }:=I.kept (t':=s.toks) λ b o e=>hx b o (RC (Rk e)) e;exact h pins _ σ H xs _ Q I1 (by simpa using rv) hw
def Qz(to ti:TE)(t:E1):TG:=λ v σ H Q=>to σ H λ o H1=>ti σ H1 λ i H2=>t o i v H2 λ H3=>Q σ H3
def ur{o i:Expr}{to ti:TE}{t:E1}(ho:PE X o to)(hi:PE X i ti)(hs:QB X t)
  (ha:∀ v,assign (.Subscript o i pos) X.env v=(do
   let ov ←holding [v] (eval o X.env)
   let iv ←holding [v,ov] (eval i X.env)
   standAt pos
   holding [v,ov,iv] (setItem ov iv v)
   release [v,ov,iv] []):=by intro _;rfl):PG X (.Subscript o i pos) (Qz to ti t):=by
 intro pins s σ H v u Q I r h;rw [ha];refine My (SH (thn (ho pins s σ H _ I h) λ ov s1 ⟨x,H1,I1,r1,q1⟩=>?_));refine My (SH (thn (hi pins s1 σ H1 _ I1 q1) λ iv s2 ⟨y,H2,I2,r2,q2⟩=>?_));refine My (VN (My (SH (thn (hs pins s2 σ H2 x y v ov iv u _ I2 r1 r2 r q2) λ _ s3 ⟨H3,I3,q3⟩=>?_))));exact wpAny_release ⟨σ,H3,I3,q3⟩
def ND(te:TE)(g:TG):TS:=λ D σ H=>te σ H λ x H1=>g x σ H1 D.nx
def pN{tg e:Expr}{te:TE}{g:TG}(he:PE X e te)(hg:PG X tg g)(hs:swapsWithSole [tg] e pos.line X.env=pure false:=by rfl)(hw:swappedStores [tg] e X.env=pure none:=by rfl)
  (h1:(assignEach [tg] X.env).map (·.2)=[assign tg X.env]:=by rfl):PS X (.Assign [tg] e pos) (ND te g):=by
 intro pins s σ H D I h;refine wpAny_Assign_stores (thn (he pins s σ H _ I h) λ v s1 ⟨x,H1,I1,r1,q1⟩=>?_) hs hw;rw [h1];exact thn (hg pins s1 σ H1 x v _ I1 r1 q1) λ _ s2 q=>q
def fY{i:Nat}{x:Str}{e:Expr}{te:TE}{pos':Pos}(hN:X.N.Nodup)(hi:X.N[i]? = some x)(hx:Loc X.env.scope x)(he:PE X e te)(hs:swapsWith e (some (.Name x pos')) pos.line X.env=pure false:=by rfl)(hf:X.fn x=true\/X.env.scope.names.lookup x=some .local:=by first|exact .inl rfl|exact .inr rfl|assumption) :
  PS X (.Assign [.Name x pos'] e pos) (ND te (eY i)):=by
 intro pins s σ H D I h;refine wpAny_Assign_Name (thn (he pins s σ H _ I h) λ v s1 ⟨y,H1,I1,r1,q1⟩=>?_) hs;exact uH I1 hN hi hx r1 (λ s2 I2=>⟨_,H1,I2,q1⟩) hf
end
section
variable {X:Cx}{pos:Pos}
def xx(c:TT)(tb:TS):TS:=λ D σ H=>∃ W:Nat->St->Hp->Prop,(∃ m,W m σ H)/\∀ m σ H,W m σ H →
 c σ H λ b H1=>if b=true then ∃ N:St->Hp->Prop,(∀ σ' H',N σ' H'->∃ m',m' < m/\W m' σ' H')/\tb { D with nx:=N,ct:=N,bk:=D.nx } σ H1 else D.nx σ H1
def CL{c:Expr}{body:List Stmt}{tc:TT}{tb:TS}(hp:PassesOwn (model X.prog X.w) X.A X.env X.xe)(hc:PT X c tc)(hb:PSs X body tb):PS X (.While c body [] pos) (xx tc tb):=by
 intro pins s σ H D I h;obtain⟨W,⟨m0,w0⟩,turn⟩:=h;refine wpAny_While (codeAny_whileLoop (λ n s'=>∃ σ' H',Inv X pins σ' H' s'/\W n σ' H') ?_ m0 ⟨σ,H,I,w0⟩);rintro n s1 ⟨σ1,H1,I1,w1⟩;refine Tv hp (thn (hc pins s1 σ1 H1 _ I1 (turn n σ1 H1 w1)) λ b s2 ⟨H2,I2,q2⟩=>?_)
 cases b with
 | true=>
  obtain⟨N,hN,q2⟩:=q2;rw [RP rfl];refine Tv hp (thn (hb pins s2 σ1 H2 _ I2 q2) λ f s3 q3=>?_)
  cases f with
  | next=>
   obtain⟨σ3,H3,I3,n3⟩:=q3;obtain⟨m',hm,w3⟩:=hN σ3 H3 n3;exact⟨m',hm,σ3,H3,I3,w3⟩
  | cont=>
   obtain⟨σ3,H3,I3,n3⟩:=q3;obtain⟨m',hm,w3⟩:=hN σ3 H3 n3;exact⟨m',hm,σ3,H3,I3,w3⟩
  | brk=>exact q3
  | ret v=>exact q3
 | false=>
  rw [RH Rw];exact Vi ⟨σ1,H2,I2,q2⟩
end
structure It where
 go:Nat->Hp->Prop
 yld:Nat->Hp->V->Hp->Prop
 stop:Nat->Hp->Prop
def rS(X:Cx)(pins:List (Addr × Obj))(H:Hp)(b:Addr):Prop:=
 H b=none/\b ≠ X.env.locals/\b ∉ X.fs/\(b∈X.ex\/X.s₀.heap.objs.size<=b)/\(∀ x c,X.env.cells.lookup x=some c->c ≠ b)/\∀ p∈X.pn++pins,p.1 ≠ b
def Inv.fpOk{X:Cx}{pins:List (Addr × Obj)}{σ:St}{H H':Hp}{s:Shared}{b:Addr}(I:Inv X pins σ H s)(hb:s.heap.objs.size<=b)(hn:H' b=none):rS X pins H' b:=by
 refine⟨hn,Sd (RD I.lt hb),I.nofs hb,.inr (Sj I.sz hb),λ x c e z=>?_,λ p hp z=>?_⟩
 ·obtain⟨v,q⟩:=I.cell x c e;exact absurd (RD q.lt (by rw [z];exact hb)) (R9 _)
 ·exact absurd (RD (Rk (I.pin p hp).1) (by rw [z];exact hb)) (R9 _)
structure BS(P:Program)(w:World)(K:W.Frag)(tg:Expr)(J:It)(fp:List Addr)(it:Addr)(tn:Nat->Heap->Prop):Prop where
 mem:it∈fp
 obj:∀ i h,tn i h->∀ b∈fp,∃ o,h.get? b=some o/\∀ v,o.data ≠ .cell v
 keep:∀ i h h',tn i h->(∀ b∈fp,∀ o,h.get? b=some o->h'.get? b=some o)->tn i h'
 item:∀ (X:Cx),X.prog=P->X.w=w->X.K=K->X.calm=true->∀ (i:Nat) (pins:List (Addr × Obj)) (s:Shared) (σ:St) (H:Hp) (E:Value->Shared->Prop),Inv X pins σ H s->(∀ b∈fp,rS X pins H b)->tn i s.heap->J.go i H →
  wpAny (model P w) X.A (pyNext (.ref it)) (λ r s1=>∃ u,r=some u /\
   wpAny (model P w) X.A (letOwnedTupleGo tg (.ref it) u) (λ _ s2=>∃ x H',Inv X pins σ H' s2/\bD x u/\J.yld i H x H'/\tn (i+1) s2.heap/\∀ b∈fp,H' b=none) E s1) E s
 done:∀ (X:Cx),X.prog=P->X.w=w->X.K=K->X.calm=true->∀ (i:Nat) (pins:List (Addr × Obj)) (s:Shared) (σ:St) (H:Hp) (E:Value->Shared->Prop),Inv X pins σ H s->(∀ b∈fp,rS X pins H b)->tn i s.heap->J.stop i H →
  wpAny (model P w) X.A (pyNext (.ref it)) (λ r s1=>r=none/\Inv X pins σ H s1) E s
 self:∀ (A:Around) (i:Nat) (s:Shared) (Q:Value->Shared->Prop) (E:Value->Shared->Prop),tn i s.heap->Q (.ref it) s->wpAny (model P w) A (pyIter (.ref it)) Q E s
abbrev TI:=St->Hp->(It->Hp->Prop)->Prop
def PIE(X:Cx)(pins:List (Addr × Obj))(σ:St)(tg:Expr)(R:It->Hp->Prop)(aS:Value)(s2:Shared):Prop:=
 ∃ (it:Addr) (fp:List Addr) (tn:Nat->Heap->Prop) (J:It) (H':Hp),aS=.ref it/\Inv X pins σ H' s2/\BS X.prog X.w X.K tg J fp it tn/\tn 0 s2.heap/\(∀ b∈fp,rS X pins H' b)/\R J H'
def PI(X:Cx)(tg iter:Expr)(wi:TI):Prop:=
 ∀ (pins:List (Addr × Obj)) (s:Shared) (σ:St) (H:Hp) (R:It->Hp->Prop),Inv X pins σ H s->wi σ H R →
  wpAny (model X.prog X.w) X.A (eval iter X.env) (λ v s1=>wpAny (model X.prog X.w) X.A (pyIter v) (PIE X pins σ tg R) X.xe s1) X.xe s
def B8{M:Model}{A:Around}{E:Value->Shared->Prop}{s:Shared}{tg:Expr}{it:Addr}{u:Value}{o:Obj}{n:String}{vs:Array Value}{Q:Unit->Shared->Prop}(ho:s.heap.get? it=some o)(hc:o.cls=.type n)(hd:o.data=.fields vs)
    (hn:["enumerate", "zip", "dict_itemiterator", "dict_reverseitemiterator", "odict_iterator", "itertools.zip_longest", "itertools.pairwise"].contains n=false) (hQ:Q () s):wpAny M A (letOwnedTupleGo tg (.ref it) u) Q E s:=by
  unfold letOwnedTupleGo
  cases tg<;>first
    | exact Ri hQ
    | (cases u<;>first
        | exact Ri hQ
        | (refine My (wpAny_load ho ?_)
           rw [hc,hd]
           show wpAny M A (if (["enumerate", "zip", "dict_itemiterator", "dict_reverseitemiterator", "odict_iterator", "itertools.zip_longest", "itertools.pairwise"].contains n && vs[0]? == some (rawInt _))=true then _ else _) Q E s
           rw [RH (by intro h;rw [hn,UE] at h;cases h)];exact Ri hQ))
def Itl(K:W.Frag)(a:Addr):It:=
 ⟨λ i H=>∃ xs x,SqL K H a xs/\xs[i]? = some x,λ i H x H'=>H'=H/\∀ xs,SqL K H a xs->xs[i]? = some x,λ i H=>∃ xs,SqL K H a xs/\xs.length<=i⟩
def Itt(K:W.Frag)(a:Addr):It:=
 ⟨λ i H=>∃ xs x,SqT K H a xs/\xs[i]? = some x,λ i H x H'=>H'=H/\∀ xs,SqT K H a xs->xs[i]? = some x,λ i H=>∃ xs,SqT K H a xs/\xs.length<=i⟩
def Itr(lo:Int)(n:Nat):It:=⟨λ i _=>i < n,λ i H x H'=>H'=H/\x=.int (lo+i),λ i _=>n<=i⟩
def zG{P:Program}{w:World}{K:W.Frag}{tg:Expr}(a it:Addr):BS P w K tg (Itl K a) [it] it (λ i h=>h.IsListIter it a i) where
 mem:=by simp
 obj:=λ i h st b hb=>by
  have e:b=it:=by simpa using hb
  subst e;obtain⟨o,e,c,d⟩:=st;exact⟨o,e,λ v z=>by rw [d] at z;cases z⟩
 keep:=λ i h h' st k=>st.at λ o e=>k it (by simp) o e
 item:=by
  intro X hP hw hK hc i pins s σ H E I hf st hg;subst hP hw hK;obtain⟨xs,x,hq,hx⟩:=hg;obtain⟨its,rv,p,hz⟩:=I.list hq;obtain⟨u,hu,ru⟩:=rv.get hx;obtain⟨f0,f1,f2,f3,f4,f5⟩:=hf it (by simp);refine wpAny_pyNext_list_item st p.isList (x:=u) (by simpa using hu) λ h' aS sb=>?_;have I1:Inv X pins σ H { s with heap:=h' }:=I.turned (t':=s.toks) (λ b o hb e=>(sb.2 b hb).trans e) f0 f1 f3 f4 f5;obtain⟨o,e,c,d⟩:=id aS;exact⟨u,rfl,B8 (s:={ s with heap:=h' }) e c d (by decide) ⟨x,H,I1,ru,⟨rfl,λ ys hy=>by rw [I.list_inj hy hq];exact hx⟩,aS,λ b hb=>(hf b hb).1⟩⟩
 done:=by
  intro X hP hw hK hc i pins s σ H E I hf st hg;subst hP hw hK;obtain⟨xs,hq,hx⟩:=hg;obtain⟨its,rv,p,hz⟩:=I.list hq;obtain⟨f0,f1,f2,f3,f4,f5⟩:=hf it (by simp);have hl:=rv.length;exact wpAny_pyNext_list_end (I.ok.hd hc) st p.isList (by simp;omega) λ h' eb=>⟨rfl,I.turned (t':=s.toks) (λ b o hb e=>eb b o hb e) f0 f1 f3 f4 f5⟩
 self:=λ _ _ _ _ _ st h=>wpAny_pyIter_listiter st h
def vO{P:Program}{w:World}{K:W.Frag}{tg:Expr}(a it:Addr):BS P w K tg (Itt K a) [it] it (λ i h=>h.IsTupleIter it a i) where
 mem:=by simp
 obj:=λ i h st b hb=>by
  have e:b=it:=by simpa using hb
  subst e;obtain⟨o,e,c,d⟩:=st;exact⟨o,e,λ v z=>by rw [d] at z;cases z⟩
 keep:=λ i h h' st k=>st.at λ o e=>k it (by simp) o e
 item:=by
  intro X hP hw hK hc i pins s σ H E I hf st hg;subst hP hw hK;obtain⟨xs,x,hq,hx⟩:=hg;obtain⟨its,rv,p,hz⟩:=I.tuple hq;obtain⟨u,hu,ru⟩:=rv.get hx;obtain⟨f0,f1,f2,f3,f4,f5⟩:=hf it (by simp);refine wpAny_pyNext_tuple_item st (show s.heap.IsTuple a its.toArray from p) (x:=u) (by simpa using hu) λ h' aS sb=>?_;have I1:Inv X pins σ H { s with heap:=h' }:=I.turned (t':=s.toks) (λ b o hb e=>(sb.2 b hb).trans e) f0 f1 f3 f4 f5;obtain⟨o,e,c,d⟩:=id aS;exact⟨u,rfl,B8 (s:={ s with heap:=h' }) e c d (by decide) ⟨x,H,I1,ru,⟨rfl,λ ys hy=>by rw [I.tuple_inj hy hq];exact hx⟩,aS,λ b hb=>(hf b hb).1⟩⟩
 done:=by
  intro X hP hw hK hc i pins s σ H E I hf st hg;subst hP hw hK;obtain⟨xs,hq,hx⟩:=hg;obtain⟨its,rv,p,hz⟩:=I.tuple hq;obtain⟨f0,f1,f2,f3,f4,f5⟩:=hf it (by simp);have hl:=rv.length;exact wpAny_pyNext_tuple_end (I.ok.hd hc) st (show s.heap.IsTuple a its.toArray from p) (by simp;omega) λ h' eb=>⟨rfl,I.turned (t':=s.toks) (λ b o hb e=>eb b o hb e) f0 f1 f3 f4 f5⟩
 self:=λ _ _ _ _ _ st h=>wpAny_pyIter_tupleiter st h
def vP{P:Program}{w:World}{K:PySem.W.Frag}{tg:Expr}(it:Addr)(lo:Int)(n:Nat):BS P w K tg (Itr lo n) [it] it (λ i h=>IsRangeIter h it (lo+(i:Nat) * 1) ((n:Int) - (i:Nat)) 1) where
 mem:=by simp
 obj:=λ i h st b hb=>by
  have e:b=it:=by simpa using hb
  subst e
  exact⟨_,st,λ v z=>by
   have z':Data.fields _=Data.cell v:=z;cases z'⟩
 keep:=λ i h h' st k=>k it (by simp) _ st
 item:=by
  intro X hP hw hK hc i pins s σ H E I hf st hg;subst hP hw hK;obtain⟨f0,f1,f2,f3,f4,f5⟩:=hf it (by simp);have W:=Walks.range (prog:=X.prog) (w:=X.w) (I.ok.hd hc) it lo 1 n;refine W.item i s _ _ hg st λ v h' tk hv aS kk=>?_;obtain⟨t,rfl⟩:=hv;have I1:Inv X pins σ H { s with heap:=h',toks:=tk }:=I.turned (λ b o hb e=>kk b o (by simpa using hb) e) f0 f1 f3 f4 f5;refine⟨_,rfl,B8 (s:={ s with heap:=h',toks:=tk }) (n := "range_iterator") aS rfl rfl (by decide) ⟨.int (lo+i),H,I1,⟨t,?_⟩,⟨rfl,rfl⟩,aS,λ b hb=>(hf b hb).1⟩⟩;rw [Ve]
 done:=by
  intro X hP hw hK hc i pins s σ H E I hf st hg;subst hP hw hK;obtain⟨f0,f1,f2,f3,f4,f5⟩:=hf it (by simp);exact wpAny_pyNext_range_end (I.ok.hd hc) st (by have:n<=i:=hg;omega) λ h' eb=>⟨rfl,I.turned (t':=s.toks) (λ b o hb e=>eb b o hb e) f0 f1 f3 f4 f5⟩
 self:=λ _ _ _ _ _ st h=>wpAny_pyIter_rangeiter st h
section
variable {X:Cx}{tg:Expr}
def CG{pins:List (Addr × Obj)}{σ:St}{H:Hp}{s:Shared}{R:It->Hp->Prop}{E:Value->Shared->Prop}{lo hi:Int}{t u v:Tok}{tk:Nat}(I:Inv X pins σ H s)(h1:-(2 ^ 62)<=lo)(h2:lo < 2 ^ 62)(h3:-(2 ^ 62)<=hi)(h4:hi < 2 ^ 62)
  (q:R (Itr lo (hi - lo).toNat) H):wpAny (model X.prog X.w) X.A (pyIter (.ref s.heap.objs.size)) (PIE X pins σ tg R) E { s with heap:=s.heap.push { cls:=.type "range",data:=.fields #[.int lo t,.int hi u,.int 1 v] },toks:=tk }:=by
 refine wpAny_pyIter_range (IsRange.new ..) (small_one h1 h2 h3 h4) ?_;have I1:Inv X pins σ H { s with heap:=s.heap.push { cls:=.type "range",data:=.fields #[.int lo t,.int hi u,.int 1 v] },toks:=tk }:=I.kept λ b o e=>Rc _ e
 refine⟨(s.heap.push { cls:=.type "range",data:=.fields #[.int lo t,.int hi u,.int 1 v] }).objs.size,[(s.heap.push { cls:=.type "range",data:=.fields #[.int lo t,.int hi u,.int 1 v] }).objs.size],_,_,H,rfl,
  I1.kept (t':=tk) λ b o e=>Rc _ e,vP _ lo (hi - lo).toNat,?_,λ b hb=>?_,q⟩
 ·have e1:lo+((0:Nat):Int) * 1=lo:=by simp
  have e2:(((hi - lo).toNat:Nat):Int) - ((0:Nat):Int)=Builtin.Range.rangeSize lo hi 1:=by rw [rangeSize_one];split<;>omega
  show IsRangeIter _ _ (lo+((0:Nat):Int) * 1) ((((hi - lo).toNat:Nat):Int) - ((0:Nat):Int)) 1
  rw [e1,e2];exact Rn _ rfl
 ·have e:b=(s.heap.push { cls:=.type "range",data:=.fields #[.int lo t,.int hi u,.int 1 v] }).objs.size:=by simpa using hb
  subst e;exact I1.fpOk (Rl _) (I1.hok.fresh (Rl _))
def KD(ta:TA):TI:=λ σ H R=>ta σ H λ vs H1=>∃ j:Int,vs=[.int j]/\-(2 ^ 62)<=j/\j < 2 ^ 62/\R (Itr 0 j.toNat) H1
def zR{a:Expr}{ta:TA}{p pos:Pos}(hg:Gl X "range")(hm:X.mg "range"=none)(ha:PA X [a] ta)(hs:starEach [a] X.env=[(false,eval a X.env)]:=by rfl):PI X tg (.Call (.Name "range" p) [a] [] pos) (KD ta):=by
 intro pins s σ H R I h;refine Call_ (eN I hg hm boot_range (RY (thn (ha pos pins s σ H _ I h) λ us s1 ⟨vs,H1,I1,r1,q1⟩=>?_) hs rfl));obtain⟨j,e,q1,q2,q⟩:=q1;subst e
 cases r1 with
 | cons r rr=>
  cases rr;obtain⟨t,rfl⟩:=r;exact call_range_1 (CG I1 (by omega) (by omega) q1 q2 (by simpa using q))
def PR(wi:TI)(g:TG)(tb:TS):TS:=λ D σ H=>wi σ H λ J H1=>∃ W:Nat->Nat->St->Hp->Prop,(∃ m,W 0 m σ H1)/\∀ i m σ H,W i m σ H →
 (J.stop i H/\D.nx σ H)\/(J.go i H/\∃ N:St->Hp->Prop,(∀ σ' H',N σ' H'->∃ m',m' < m/\W (i+1) m' σ' H')/\∀ x H',J.yld i H x H'->g x σ H' λ σ2 H2=>tb { D with nx:=N,ct:=N,bk:=D.nx } σ2 H2)
def pO(fp:List Addr)(h:Heap):List (Addr × Obj):=fp.filterMap λ b=>(h.get? b).map λ o=>(b,o)
def gI{fp:List Addr}{h:Heap}{b:Addr}{o:Obj}(hb:b∈fp)(e:h.get? b=some o):(b,o)∈pO fp h:=Vl.mpr ⟨b,hb,by rw [e];rfl⟩
def Ac{fp:List Addr}{h:Heap}{p:Addr × Obj}(hp:p∈pO fp h):p.1∈fp/\h.get? p.1=some p.2:=by
 obtain⟨b,hb,e⟩:=Vl.mp hp
 cases q:h.get? b with
 | none=>rw [q] at e;cases e
 | some o=>
  rw [q] at e;have e':(b,o)=p:=RE e;subst e';exact⟨hb,q⟩
def Inv.pinned{pins:List (Addr × Obj)}{σ:St}{H:Hp}{s:Shared}{fp:List Addr}(I:Inv X pins σ H s)(hf:∀ b∈fp,rS X pins H b)(ho:∀ b∈fp,∃ o,s.heap.get? b=some o/\∀ v,o.data ≠ .cell v):Inv X (pins++pO fp s.heap) σ H s:=
 I.pins_of λ p hp=>(RQ.mp hp).elim (λ z=>I.pin p (RG _ z)) λ z=>by
  obtain⟨hb,e⟩:=Ac z;obtain⟨f0,f1,f2,_⟩:=hf p.1 hb;obtain⟨o,e',d⟩:=ho p.1 hb;rw [e] at e';cases e';exact⟨e,f0,f1,f2,d⟩
def Inv.unpinned{pins pl:List (Addr × Obj)}{σ:St}{H:Hp}{s:Shared}(I:Inv X (pins++pl) σ H s):Inv X pins σ H s:=I.pins_of λ p hp=>I.pin p (RG _ (RB _ hp))
def K6{iter:Expr}{body:List Stmt}{wi:TI}{g:TG}{tb:TS}{pos:Pos}(hp:PassesOwn (model X.prog X.w) X.A X.env X.xe)(hc:X.calm=true)(hi:PI X tg iter wi)(hg:PG X tg g)(hb:PSs X body tb)
  (hs:∀ x,foldedSetIterable iter X.env x=pure x:=by intro _;rfl):PS X (.For tg iter body [] pos) (PR wi g tb):=by
 intro pins s σ H D I h;refine wpAny_For (thn (hi pins s σ H _ I h) λ v s1 h1=>thn h1 λ a8 s2 h2=>?_) hs;obtain⟨it,fp,tn,J,H2,e,I2,T,a5,f2,W,⟨m0,w0⟩,turn⟩:=h2;subst e;have aS:∀ {H':Hp},(∀ b∈fp,H' b=none)->∀ b∈fp,rS X pins H' b:=λ hn b hb=>⟨hn b hb,(f2 b hb).2⟩;refine codeAny_forLoop_any (λ n s'=>∃ i σ' H',Inv X pins σ' H' s'/\tn i s'.heap/\(∀ b∈fp,H' b=none)/\W i n σ' H') ?_ m0 ⟨0,σ,H2,I2,a5,λ b hb=>(f2 b hb).1,w0⟩;rintro n s3 ⟨i,σ3,H3,I3,a3,a4,w3⟩
 rcases turn i n σ3 H3 w3 with ⟨stop,qn⟩|⟨go,N,hN,step⟩
 ·refine Tv hp (thn (T.done X rfl rfl rfl hc i pins s3 σ3 H3 X.xe I3 (aS a4) a3 stop) λ r s4 ⟨hr,I4⟩=>?_);subst hr;exact Vi ⟨σ3,H3,I4,qn⟩
 ·refine Tv hp (thn (T.item X rfl rfl rfl hc i pins s3 σ3 H3 X.xe I3 (aS a4) a3 go) λ r s4 ⟨u,hr,h4⟩=>?_);subst hr;refine Tv hp (thn h4 λ _ s5 ⟨x,H5,I5,r5,y5,aX,a6⟩=>?_);have a7:=I5.pinned (aS a6) (T.obj _ _ aX);refine Tv hp (thn (hg _ s5 σ3 H5 x u _ a7 r5 (step x H5 y5)) λ _ s6 ⟨σ6,H6,I6,q6⟩=>?_);refine Tv hp (thn (hb _ s6 σ6 H6 _ I6 q6) λ f s7 q7=>?_)
  have again:∀ {σ7:St} {H7:Hp},Inv X (pins++pO fp s5.heap) σ7 H7 s7->N σ7 H7->∃ m,m < n/\∃ i σ' H',Inv X pins σ' H' s7/\tn i s7.heap/\(∀ b∈fp,H' b=none)/\W i m σ' H':=λ {σ7 H7} I7 n7=>by
   obtain⟨m',hm,w7⟩:=hN σ7 H7 n7;refine⟨m',hm,i+1,σ7,H7,I7.unpinned,T.keep _ _ _ aX λ b hb o e=>(I7.pin (b,o) (RG _ (RG _ (gI hb e)))).1,λ b hb=>?_,w7⟩;obtain⟨o,e,d⟩:=T.obj _ _ aX b hb;exact(I7.pin (b,o) (RG _ (RG _ (gI hb e)))).2.1
  cases f with
  | next=>obtain⟨σ7,H7,I7,n7⟩:=q7;exact again I7 n7
  | cont=>obtain⟨σ7,H7,I7,n7⟩:=q7;exact again I7 n7
  | brk=>obtain⟨σ7,H7,I7,q7⟩:=q7;exact⟨σ7,H7,I7.unpinned,q7⟩
  | ret v=>obtain⟨x7,σ7,H7,I7,r7,q7⟩:=q7;exact⟨x7,σ7,H7,I7.unpinned,r7,q7⟩
end
def Ey{K:PySem.W.Frag}{a:Addr}{xs:List V}{g:TG}{tb:TS}{D:uj}{σ:St}{H:Hp}(Pv:Nat->St->Hp->Prop)(h0:Pv 0 σ H)(hl:∀ i σ H,i<=xs.length->Pv i σ H->SqL K H a xs)
  (hs:∀ i x σ H,xs[i]? = some x->Pv i σ H->g x σ H λ σ2 H2=>tb { D with nx:=Pv (i+1),ct:=Pv (i+1),bk:=D.nx } σ2 H2) (hd:∀ σ H,Pv xs.length σ H->D.nx σ H) :
  ∃ W:Nat->Nat->St->Hp->Prop,(∃ m,W 0 m σ H)/\∀ i m σ H,W i m σ H →
   ((Itl K a).stop i H/\D.nx σ H)\/((Itl K a).go i H/\∃ N:St->Hp->Prop,(∀ σ' H',N σ' H'->∃ m',m' < m/\W (i+1) m' σ' H')/\∀ x H',(Itl K a).yld i H x H'->g x σ H' λ σ2 H2=>tb { D with nx:=N,ct:=N,bk:=D.nx } σ2 H2):=by
 refine⟨λ i m σ H=>m=xs.length - i/\i<=xs.length/\Pv i σ H,⟨xs.length,by simp,So _,h0⟩,?_⟩;rintro i m σ H ⟨rfl,hi,p⟩;have q:=hl i σ H hi p
 by_cases hlt:i < xs.length
 ·refine .inr ⟨⟨xs,xs[i],q,by simp [hlt]⟩,Pv (i+1),λ σ' H' p'=>⟨xs.length - (i+1),by omega,rfl,hlt,p'⟩,λ x H' y=>?_⟩;obtain⟨e,y⟩:=y;subst e;exact hs i x σ _ (y xs q) p
 ·have e:i=xs.length:=by omega
  subst e;exact .inl ⟨⟨xs,q,Rl _⟩,hd σ H p⟩
def Bq{lo:Int}{n:Nat}{g:TG}{tb:TS}{D:uj}{σ:St}{H:Hp}(Pv:Nat->St->Hp->Prop)(h0:Pv 0 σ H)
  (hs:∀ i σ H,i < n->Pv i σ H->g (.int (lo+i)) σ H λ σ2 H2=>tb { D with nx:=Pv (i+1),ct:=Pv (i+1),bk:=D.nx } σ2 H2) (hd:∀ σ H,Pv n σ H->D.nx σ H) :
  ∃ W:Nat->Nat->St->Hp->Prop,(∃ m,W 0 m σ H)/\∀ i m σ H,W i m σ H →
   ((Itr lo n).stop i H/\D.nx σ H)\/((Itr lo n).go i H/\∃ N:St->Hp->Prop,(∀ σ' H',N σ' H'->∃ m',m' < m/\W (i+1) m' σ' H')/\∀ x H',(Itr lo n).yld i H x H'->g x σ H' λ σ2 H2=>tb { D with nx:=N,ct:=N,bk:=D.nx } σ2 H2):=by
 refine⟨λ i m σ H=>m=n - i/\i<=n/\Pv i σ H,⟨n,by simp,So _,h0⟩,?_⟩;rintro i m σ H ⟨rfl,hi,p⟩
 by_cases hlt:i < n
 ·refine .inr ⟨hlt,Pv (i+1),λ σ' H' p'=>⟨n - (i+1),by omega,rfl,hlt,p'⟩,λ x H' y=>?_⟩;obtain⟨e,y⟩:=y;subst e y;exact hs i σ _ hlt p
 ·have e:i=n:=by omega
  subst e;exact .inl ⟨Rl _,hd σ H p⟩
abbrev R2:=V->V->Hp->VK->Prop
def OpR(X:Cx)(f:Value->Value->Sem Value)(r:R2):Prop:=
 ∀ (pins:List (Addr × Obj)) (s:Shared) (σ:St) (H:Hp) (x y:V) (v u:Value) (Q:VK),Inv X pins σ H s->bD x v->bD y u->r x y H Q →
  wpAny (model X.prog X.w) X.A (f v u) (EP X pins σ Q) X.xe s
def UnR(X:Cx)(f:Value->Sem Value)(r:V->Hp->VK->Prop):Prop:=
 ∀ (pins:List (Addr × Obj)) (s:Shared) (σ:St) (H:Hp) (x:V) (v:Value) (Q:VK),Inv X pins σ H s->bD x v->r x H Q →
  wpAny (model X.prog X.w) X.A (f v) (EP X pins σ Q) X.xe s
def cu(X:Cx)(f:Value)(r:List V->Hp->VK->Prop):Prop:=
 ∀ (pins:List (Addr × Obj)) (s:Shared) (σ:St) (H:Hp) (xs:List V) (us:List Value) (Q:VK),Inv X pins σ H s->aU xs us->r xs H Q →
  wpAny (model X.prog X.w) X.A (call f us) (EP X pins σ Q) X.xe s
def tOp(r:R2)(ta tb:TE):TE:=λ σ H Q=>ta σ H λ x H1=>tb σ H1 λ y H2=>r x y H2 Q
def tUn(r:V->Hp->VK->Prop)(ta:TE):TE:=λ σ H Q=>ta σ H λ x H1=>r x H1 Q
def rI(C:Int->Int->Prop)(g:Int->Int->V):R2:=λ x y H Q=>∃ i j,x=.int i/\y=.int j/\C i j/\Q (g i j) H
def rI0(g:Int->Int->V):R2:=λ x y H Q=>∃ i j,x=.int i/\y=.int j/\Q (g i j) H
def rU(g:Int->V):V->Hp->VK->Prop:=λ x H Q=>∃ i,x=.int i/\Q (g i) H
section
variable {X:Cx}{a b c:Expr}{ta tb tc:TE}{pos:Pos}
def Ow(ha:PE X a ta)(hb:PE X b tb){pins:List (Addr × Obj)}{s:Shared}{σ:St}{H:Hp}{R:V->V->Hp->Prop}(I:Inv X pins σ H s)
  (h:ta σ H λ x H1=>tb σ H1 λ y H2=>R x y H2) {Q:Value->Shared->Prop} {f:Value->Value->Sem Value}
  (hf:∀ v u s2 x y H2,Inv X pins σ H2 s2->bD x v->bD y u->R x y H2->wpAny (model X.prog X.w) X.A (f v u) Q X.xe s2) :
  wpAny (model X.prog X.w) X.A (eval a X.env) (λ v s₁=>wpAny (model X.prog X.w) X.A (eval b X.env) (λ u s₂=>wpAny (model X.prog X.w) X.A (f v u) Q X.xe s₂) X.xe s₁) X.xe s:=by
 refine thn (ha pins s σ H _ I h) λ v s1 ⟨x,H1,I1,r1,q1⟩=>?_;refine thn (hb pins s1 σ H1 _ I1 q1) λ u s2 ⟨y,H2,I2,r2,q2⟩=>?_;exact hf v u s2 x y H2 I2 r1 r2 q2
def fX{op:Operator}{r:R2}(ho:OpR X (binaryOp op) r)(ha:PE X a ta)(hb:PE X b tb):PE X (.BinOp a op b pos) (tOp r ta tb):=by
 intro pins s σ H Q I h;exact wpAny_BinOp (Ow ha hb I h λ v u s2 x y H2 I2 rx ry q=>ho pins s2 σ H2 x y v u Q I2 rx ry q)
def xo{op:UnaryOp}{r:V->Hp->VK->Prop}(ho:UnR X (unaryOp op) r)(ha:PE X a ta):PE X (.UnaryOp op a pos) (tUn r ta):=by
 intro pins s σ H Q I h;exact UnaryOp_ (thn (ha pins s σ H _ I h) λ v s1 ⟨x,H1,I1,r1,q1⟩=>ho pins s1 σ H1 x v Q I1 r1 q1)
def opI{f:Value->Value->Sem Value}{C:Int->Int->Prop}{g:Int->Int->Int}
  (rule:∀ (i j:Int) (t u:Tok) (s:Shared) (Q:Value->Shared->Prop) (E:Value->Shared->Prop),C i j->Q (.int (g i j) s.toks) { s with toks:=s.toks+1 }->wpAny (model X.prog X.w) X.A (f (.int i t) (.int j u)) Q E s) :
  OpR X f (rI C λ i j=>.int (g i j)):=by
 intro pins s σ H x y v u Q I rx ry h;obtain⟨i,j,rfl,rfl,hc,q⟩:=h;obtain⟨t,rfl⟩:=rx;obtain⟨t',rfl⟩:=ry;exact rule i j t t' s _ _ hc ⟨.int (g i j),H,I.tok _,⟨_,rfl⟩,q⟩
def P8{f:Value->Value->Sem Value}{g:Int->Int->Int}
  (rule:∀ (i j:Int) (t u:Tok) (s:Shared) (Q:Value->Shared->Prop) (E:Value->Shared->Prop),Q (.int (g i j) s.toks) { s with toks:=s.toks+1 }->wpAny (model X.prog X.w) X.A (f (.int i t) (.int j u)) Q E s) :
  OpR X f (rI0 λ i j=>.int (g i j)):=by
 intro pins s σ H x y v u Q I rx ry h;obtain⟨i,j,rfl,rfl,q⟩:=h;obtain⟨t,rfl⟩:=rx;obtain⟨t',rfl⟩:=ry;exact rule i j t t' s _ _ ⟨.int (g i j),H,I.tok _,⟨_,rfl⟩,q⟩
def Nk{f:Value->Value->Sem Value}{g:Int->Int->Bool}
  (rule:∀ (i j:Int) (t u:Tok) (s:Shared) (Q:Value->Shared->Prop) (E:Value->Shared->Prop),Q (.bool (g i j)) s->wpAny (model X.prog X.w) X.A (f (.int i t) (.int j u)) Q E s) :
  OpR X f (rI0 λ i j=>.bl (g i j)):=by
 intro pins s σ H x y v u Q I rx ry h;obtain⟨i,j,rfl,rfl,q⟩:=h;obtain⟨t,rfl⟩:=rx;obtain⟨t',rfl⟩:=ry;exact rule i j t t' s _ _ ⟨.bl (g i j),H,I,rfl,q⟩
def Oy(i j:Int):Prop:=0 < j/\j < 1073741824
def pI(i j:Int):Prop:=(-(2 ^ 64) < i/\i < 2 ^ 64)\/(-(2 ^ 64) < j/\j < 2 ^ 64)
def pI.ok{i j:Int}(h:pI i j):IntMulOk i j:=by
 rcases h with ⟨h1,h2⟩|⟨h1,h2⟩
 ·exact .of_left (intBits_le_64 h1 h2)
 ·exact .of_right (intBits_le_64 h1 h2)
def uv:OpR X (binaryOp .Add) (rI0 λ i j=>.int (i+j)):=P8 λ _ _ _ _ _ _ _ q=>add_int q
def Lh:OpR X (binaryOp .Sub) (rI0 λ i j=>.int (i - j)):=P8 λ _ _ _ _ _ _ _ q=>sub_int q
def jy:OpR X (binaryOp .Mult) (rI pI λ i j=>.int (i * j)):=opI λ _ _ _ _ _ _ _ hc q=>mul_int q hc.ok
def Hx:OpR X (binaryOp .FloorDiv) (rI Oy λ i j=>.int (i / j)):=opI λ i j _ _ _ _ _ hc q=>by
 have h1:(0:Int) < j:=hc.1;have h2:j < 1073741824:=hc.2;exact floordiv_int (by omega) (by rw [Int.fdiv_eq_ediv_of_nonneg i (by omega)];exact q) (.inl (PyProof.noPylong_small (by omega)))
def kd:OpR X (binaryOp .Mod) (rI (λ _ j=>0 < j) λ i j=>.int (i % j)):=opI λ i j _ _ _ _ _ hc q=>by
 have h1:(0:Int) < j:=hc;exact mod_int' (by omega) (by rw [Int.fmod_eq_emod_of_nonneg i (by omega)];exact q)
def unI{f:Value->Sem Value}{g:Int->Int}
  (rule:∀ (i:Int) (t:Tok) (s:Shared) (Q:Value->Shared->Prop) (E:Value->Shared->Prop),Q (.int (g i) s.toks) { s with toks:=s.toks+1 }->wpAny (model X.prog X.w) X.A (f (.int i t)) Q E s) :
  UnR X f (rU λ i=>.int (g i)):=by
 intro pins s σ H x v Q I rx h;obtain⟨i,rfl,q⟩:=h;obtain⟨t,rfl⟩:=rx;exact rule i t s _ _ ⟨.int (g i),H,I.tok _,⟨_,rfl⟩,q⟩
def KR:UnR X (unaryOp .USub) (rU λ i=>.int (-i)):=unI λ _ _ _ _ _ q=>neg_int q
end
def Nj:V->V->Bool
 | .non,.non=>true | .non,.int _=>true | .int _,.non=>true | .non,.bl _=>true | .bl _,.non=>true | .non,.str _=>true | .str _,.non=>true
 | .int _,.int _=>true | .bl _,.bl _=>true | .str _,.str _=>true | .byt _,.byt _=>true
 | .int _,.str _=>true | .str _,.int _=>true | .bl _,.str _=>true | .str _,.bl _=>true
 | _,_=>false
def rEq:R2:=λ x y H Q=>Nj x y=true/\Q (.bl (decide (x=y))) H
def rNe:R2:=λ x y H Q=>Nj x y=true/\Q (.bl (!decide (x=y))) H
def yQ{i j:Int}:decide (V.int i=V.int j)=(i == j):=by
 rw [SE];simp
def Fw{i j:Bool}:decide (V.bl i=V.bl j)=(i == j):=by
 rw [SE];simp
def yP{i j:Str}:decide (V.str i=V.str j)=(i == j):=by
 rw [SE];simp
def yR{i j:Array UInt8}:decide (V.byt i=V.byt j)=(i.toList == j.toList):=by
 rw [SE];cases i;cases j;simp
section
variable {X:Cx}{a b c:Expr}{ta tb tc:TE}{pos:Pos}
def aQ{pins:List (Addr × Obj)}{σ:St}{H:Hp}{s:Shared}{Q:VK}{k k':Bool}(I:Inv X pins σ H s)(q:Q (.bl k) H)(e:k=k'):EP X pins σ Q (.bool k') s:=by
 subst e;exact⟨.bl k,H,I,rfl,q⟩
def OJ:OpR X (compareOp .Eq) rEq:=by
 intro pins s σ H x y v u Q I rx ry h;obtain⟨hs,q⟩:=h
 cases x with
 | non=>
  cases rx
  cases y with
  | non=>cases ry;exact PySem.EqNone.eq_none_none (aQ I q (by simp))
  | bl j=>cases ry;exact PySem.EqNone.eq_none_bool (aQ I q (by simp))
  | int j=>obtain⟨t',rfl⟩:=ry;exact PySem.EqNone.eq_none_int (aQ I q (by simp))
  | str j=>obtain⟨t',rfl⟩:=ry;exact PySem.EqNone.eq_none_str (aQ I q (by simp))
  | _=>exact absurd (show false=true from hs) Rw
 | bl i=>
  cases rx
  cases y with
  | non=>cases ry;exact PySem.EqNone.eq_bool_none (aQ I q (by simp))
  | bl j=>cases ry;exact eq_bool (aQ I q Fw)
  | str j=>obtain⟨t',rfl⟩:=ry;exact PySem.EqMixed.eq_bool_str (aQ I q (by simp))
  | _=>exact absurd (show false=true from hs) Rw
 | int i=>
  obtain⟨t,rfl⟩:=rx
  cases y with
  | non=>cases ry;exact PySem.EqNone.eq_int_none (aQ I q (by simp))
  | int j=>obtain⟨t',rfl⟩:=ry;exact eq_int (aQ I q yQ)
  | str j=>obtain⟨t',rfl⟩:=ry;exact PySem.EqMixed.eq_int_str (aQ I q (by simp))
  | _=>exact absurd (show false=true from hs) Rw
 | str i=>
  obtain⟨t,rfl⟩:=rx
  cases y with
  | non=>cases ry;exact PySem.EqNone.eq_str_none (aQ I q (by simp))
  | bl j=>cases ry;exact PySem.EqMixed.eq_str_bool (aQ I q (by simp))
  | int j=>obtain⟨t',rfl⟩:=ry;exact PySem.EqMixed.eq_str_int (aQ I q (by simp))
  | str j=>obtain⟨t',rfl⟩:=ry;exact eq_str (aQ I q yP)
  | _=>exact absurd (show false=true from hs) Rw
 | byt i=>
  obtain⟨t,rfl⟩:=rx
  cases y with
  | byt j=>obtain⟨t',rfl⟩:=ry;exact W.eq_bytes (aQ I q yR)
  | _=>exact absurd (show false=true from hs) Rw
 | _=>cases y<;>exact absurd (show false=true from hs) Rw
def OG:OpR X (compareOp .NotEq) rNe:=by
 intro pins s σ H x y v u Q I rx ry h;obtain⟨hs,q⟩:=h
 cases x with
 | non=>
  cases rx
  cases y with
  | non=>cases ry;exact PySem.EqNone.ne_none_none (aQ I q (by simp))
  | bl j=>cases ry;exact PySem.EqNone.ne_none_bool (aQ I q (by simp))
  | int j=>obtain⟨t',rfl⟩:=ry;exact PySem.EqNone.ne_none_int (aQ I q (by simp))
  | str j=>obtain⟨t',rfl⟩:=ry;exact PySem.EqNone.ne_none_str (aQ I q (by simp))
  | _=>exact absurd (show false=true from hs) Rw
 | bl i=>
  cases rx
  cases y with
  | non=>cases ry;exact PySem.EqNone.ne_bool_none (aQ I q (by simp))
  | bl j=>cases ry;exact ne_bool (aQ I q (SA not Fw))
  | str j=>obtain⟨t',rfl⟩:=ry;exact PySem.EqMixed.ne_bool_str (aQ I q (by simp))
  | _=>exact absurd (show false=true from hs) Rw
 | int i=>
  obtain⟨t,rfl⟩:=rx
  cases y with
  | non=>cases ry;exact PySem.EqNone.ne_int_none (aQ I q (by simp))
  | int j=>obtain⟨t',rfl⟩:=ry;exact ne_int (aQ I q (SA not yQ))
  | str j=>obtain⟨t',rfl⟩:=ry;exact PySem.EqMixed.ne_int_str (aQ I q (by simp))
  | _=>exact absurd (show false=true from hs) Rw
 | str i=>
  obtain⟨t,rfl⟩:=rx
  cases y with
  | non=>cases ry;exact PySem.EqNone.ne_str_none (aQ I q (by simp))
  | bl j=>cases ry;exact PySem.EqMixed.ne_str_bool (aQ I q (by simp))
  | int j=>obtain⟨t',rfl⟩:=ry;exact PySem.EqMixed.ne_str_int (aQ I q (by simp))
  | str j=>obtain⟨t',rfl⟩:=ry;exact ne_str (aQ I q (SA not yP))
  | _=>exact absurd (show false=true from hs) Rw
 | byt i=>
  obtain⟨t,rfl⟩:=rx
  cases y with
  | byt j=>obtain⟨t',rfl⟩:=ry;exact W.ne_bytes (aQ I q (SA not yR))
  | _=>exact absurd (show false=true from hs) Rw
 | _=>cases y<;>exact absurd (show false=true from hs) Rw
def Kk:OpR X (compareOp .Lt) (rI0 λ i j=>.bl (decide (i < j))):=Nk λ _ _ _ _ _ _ _ q=>lt_int q
def OH:OpR X (compareOp .LtE) (rI0 λ i j=>.bl (decide (i<=j))):=Nk λ _ _ _ _ _ _ _ q=>le_int q
def Kl:OpR X (compareOp .Gt) (rI0 λ i j=>.bl (decide (j < i))):=Nk λ _ _ _ _ _ _ _ q=>gt_int q
def OI:OpR X (compareOp .GtE) (rI0 λ i j=>.bl (decide (j<=i))):=Nk λ _ _ _ _ _ _ _ q=>ge_int q
def Lm:OpR X (compareOp .Is) (λ x y H Q=>y=.non/\Q (.bl (decide (x=.non))) H):=by
 intro pins s σ H x y v u Q I rx ry h;obtain⟨rfl,q⟩:=h;cases ry;refine is_none_gen (aQ I q ?_)
 cases x<;>first
  | (cases rx;rfl)
  | (obtain⟨t,rfl⟩:=rx;rfl)
def Hu:OpR X (compareOp .IsNot) (λ x y H Q=>y=.non/\Q (.bl (!decide (x=.non))) H):=by
 intro pins s σ H x y v u Q I rx ry h;obtain⟨rfl,q⟩:=h;cases ry;refine isnot_none_gen (aQ I q ?_)
 cases x<;>first
  | (cases rx;rfl)
  | (obtain⟨t,rfl⟩:=rx;rfl)
def OpR.or{f:Value->Value->Sem Value}{r r':R2}(h:OpR X f r)(h':OpR X f r'):OpR X f (λ x y H Q=>r x y H Q\/r' x y H Q):=by
 intro pins s σ H x y v u Q I rx ry q
 rcases q with q|q
 ·exact h pins s σ H x y v u Q I rx ry q
 ·exact h' pins s σ H x y v u Q I rx ry q
def ar(b:Expr){op:CmpOp}(h:op ≠ .In:=by decide)(h2:op ≠ .NotIn:=by decide):behindInMarks op b=false:=by
 have e1:(op == CmpOp.In)=false:=by cases op<;>first|rfl|exact absurd rfl h
 have e2:(op == CmpOp.NotIn)=false:=by cases op<;>first|rfl|exact absurd rfl h2
 cases b<;>simp [behindInMarks,e1,e2]
def Hr{op:CmpOp}{r:R2}(ho:OpR X (compareOp op) r)(ha:PE X a ta)(hb:PE X b tb)(hm:behindInMarks op b=false):PE X (.Compare a [op] [b] pos) (tOp r ta tb):=by
 intro pins s σ H Q I h;exact wpAny_Compare1 (Ow ha hb I h λ v u s2 x y H2 I2 rx ry q=>ho pins s2 σ H2 x y v u Q I2 rx ry q) hm
def BW(t:TE):TT:=λ σ H Q=>t σ H λ x H'=>∃ k,x=.bl k/\Q k H'
def sJ{op:CmpOp}{r:R2}(ho:OpR X (compareOp op) r)(ha:PE X a ta)(hb:PE X b tb)(hm:behindInMarks op b=false):PT X (.Compare a [op] [b] pos) (BW (tOp r ta tb)):=by
 intro pins s σ H Q I h
 refine wpAny_isTrue_Compare1 (thn (ha pins s σ H _ I h) λ v s1 ⟨x,H1,I1,r1,q1⟩=>thn (hb pins s1 σ H1 _ I1 q1) λ u s2 ⟨y,H2,I2,r2,q2⟩=>
  thn (ho pins s2 σ H2 x y v u _ I2 r1 r2 q2) λ c s3 ⟨z,H3,I3,r3,k,e,q3⟩=>?_) hm
 subst e;cases r3;exact Sq ⟨H3,I3,q3⟩
def xy(r r':R2)(ta tb tc:TE):TE:=λ σ H Q=>ta σ H λ x H1=>tb σ H1 λ y H2=>r x y H2 λ z H3=>∃ k,z=.bl k /\
 (if k=true then tc σ H3 λ w' H4=>r' y w' H4 Q else Q (.bl false) H3)
def Dd{op aS:CmpOp}{r r':R2}(ho:OpR X (compareOp op) r)(aX:OpR X (compareOp aS) r')(ha:PE X a ta)(hb:PE X b tb)(hc:PE X c tc)
  (hm:lastMarks [op,aS] [b,c]=false:=by with_unfolding_all rfl):PE X (.Compare a [op,aS] [b,c] pos) (xy r r' ta tb tc):=by
 intro pins s σ H Q I h
 refine Compare_chain (thn (ha pins s σ H _ I h) λ v s1 ⟨x,H1,I1,r1,q1⟩=>chain_link (thn (hb pins s1 σ H1 _ I1 q1) λ u s2 ⟨y,H2,I2,r2,q2⟩=>
  thn (ho pins s2 σ H2 x y v u _ I2 r1 r2 q2) λ d s3 ⟨z,H3,I3,r3,k,e,q3⟩=>?_)) hm
 subst e;cases r3;refine Sq ?_
 cases k with
 | false=>exact ite_ff ⟨.bl false,H3,I3,rfl,q3⟩
 | true=>exact ite_tt (chain_last (thn (hc pins s3 σ H3 _ I3 q3) λ w' s4 ⟨z',H4,I4,r4,q4⟩=>aX pins s4 σ H4 y z' u w' Q I4 r2 r4 q4))
def CK{op aS:CmpOp}{r r':R2}(ho:OpR X (compareOp op) r)(aX:OpR X (compareOp aS) r')(ha:PE X a ta)(hb:PE X b tb)(hc:PE X c tc)
  (hm:lastMarks [op,aS] [b,c]=false:=by with_unfolding_all rfl):PT X (.Compare a [op,aS] [b,c] pos) (BW (xy r r' ta tb tc)):=by
 intro pins s σ H Q I h
 refine isTrue_chain (thn (ha pins s σ H _ I h) λ v s1 ⟨x,H1,I1,r1,q1⟩=>test_link (thn (hb pins s1 σ H1 _ I1 q1) λ u s2 ⟨y,H2,I2,r2,q2⟩=>
  thn (ho pins s2 σ H2 x y v u _ I2 r1 r2 q2) λ d s3 ⟨z,H3,I3,r3,k,e,q3⟩=>?_)) hm
 subst e;cases r3;refine Sq ?_
 cases k with
 | false=>
  obtain⟨k',e',q'⟩:=q3;cases e';exact ite_ff ⟨H3,I3,q'⟩
 | true=>
  refine ite_tt (test_last (thn (hc pins s3 σ H3 _ I3 q3) λ w' s4 ⟨z',H4,I4,r4,q4⟩=>thn (aX pins s4 σ H4 y z' u w' _ I4 r2 r4 q4) λ d' s5 ⟨z2,H5,I5,r5,k2,e2,q5⟩=>?_));subst e2;cases r5;exact Sq ⟨H5,I5,q5⟩
def mC:(sizeLine:Nat) < 2 ^ 63:=by rw [sizeLine_eq];decide
def xl{x:V}{us:List Value}(r:aU [x] us):∃ u,us=[u]/\bD x u:=by
 cases r with
 | cons r1 r2=>cases r2;exact⟨_,rfl,r1⟩
def FF{x y:V}{us:List Value}(r:aU [x,y] us):∃ u w',us=[u,w']/\bD x u/\bD y w':=by
 cases r with
 | cons r1 r2=>
  cases r2 with
  | cons r3 r4=>cases r4;exact⟨_,_,rfl,r1,r3⟩
def By(hc:X.calm=true):cu X (.builtin "max") (λ xs H Q=>∃ i j,xs=[.int i,.int j]/\Q (.int (if j > i then j else i)) H):=by
 intro pins s σ H xs us Q I r h;obtain⟨i,j,rfl,q⟩:=h;obtain⟨u,w',rfl,⟨t,rfl⟩,⟨t',rfl⟩⟩:=FF r;refine max_two_ints (I.ok.hd hc) λ h' tk k=>⟨_,H,I.kept k,?_,q⟩
 by_cases hj:j > i
 ·rw [RP hj,RP hj];exact⟨_,rfl⟩
 ·rw [RH hj,RH hj];exact⟨_,rfl⟩
def Bw(hc:X.calm=true):cu X (.builtin "min") (λ xs H Q=>∃ i j,xs=[.int i,.int j]/\Q (.int (if j < i then j else i)) H):=by
 intro pins s σ H xs us Q I r h;obtain⟨i,j,rfl,q⟩:=h;obtain⟨u,w',rfl,⟨t,rfl⟩,⟨t',rfl⟩⟩:=FF r;refine min_two_ints (I.ok.hd hc) λ h' tk k=>⟨_,H,I.kept k,?_,q⟩
 by_cases hj:j < i
 ·rw [RP hj,RP hj];exact⟨_,rfl⟩
 ·rw [RH hj,RH hj];exact⟨_,rfl⟩
end
structure FD(h:Heap)(x dx C:Addr)(mA:Str->Option Value):Prop where
 obj:h.get? x=some (W.instObj C dx)
 ns:h.Ns1 dx mA
 ne:dx ≠ x
def AS{h:Heap}{dx:Addr}{mA:Str->Option Value}(n:h.Ns1 dx mA):∃ od,h.get? dx=some od/\∀ name,W.lookIn name od=some (mA name):=by
 obtain⟨o,es,ep,ho,hd,hk,_,hm⟩:=n;refine⟨o,ho,λ name=>?_⟩;have e:=hm name;unfold nsFind findBy at e;rw [←Array.find?_toList] at e;unfold W.lookIn;rw [hd];dsimp only;split
 ·rename_i y q;rw [q] at e;exact SA some e
 ·rename_i q;rw [q] at e
  have a:es.toList.any (·.refKey)=false:=by
   rw [List.any_eq_false];intro y hy;obtain⟨z,t,aS⟩:=hk y (Array.mem_toList_iff.mp hy);simp [DictEntry.refKey,aS]
  have a':¬ es.toList.any (·.refKey)=true:=by rw [a];exact Rw
  rw [RH a'];exact SA some e
def FD.look{h:Heap}{x dx C:Addr}{mA:Str->Option Value}(I:FD h x dx C mA):∃ od,W.InstAt h x (W.instObj C dx) C (some od)/\∀ name,W.lookIn name od=some (mA name):=
 let ⟨od,ho,hl⟩:=AS I.ns
 ⟨od,⟨I.obj,rfl,rfl,ho⟩,hl⟩
section
variable {prog:Program}{w:World}{A:Around}{E:Value->Shared->Prop}{s:Shared}{K:PySem.W.Frag}{x dx C f:Addr}{mA:Str->Option Value}{name:Str}{v:Value}
def Jm{expr:Bool}{Q:Value->Shared->Prop}(X:K.In s.heap)(I:FD s.heap x dx C mA)(hg:W.plainGet K C name=true)(hh:W.hasDictIn K C=true)
  (ha:W.findIn K (.ref C) name=some none) (hv:mA name=some v) (aS:W.handedIn v=true) (h:Q v { s with toks:=s.toks+1 }) :
  wpAny (model prog w) A (getAttr (.ref x) name expr) Q E s:=by
 obtain⟨od,J,hl⟩:=I.look;exact W.get_value X J (W.plainGet_of hg).1 (W.findObj_own hh ha rfl (by rw [hl,hv])) aS h
def Eo{pl:Sem Bool}{Q:Value × List Value->Shared->Prop}(X:K.In s.heap)(I:FD s.heap x dx C mA)(hg:W.plainGet K C name=true)
  (hf:W.findIn K (.ref C) name=some (some (.ref f))) (ht:W.isFn K (.ref f)=true) (hv:mA name=none) (h:Q (.ref f,[.ref x]) s) :
  wpAny (model prog w) A (getMethod (.ref x) name pl) Q E s:=by
 obtain⟨od,J,hl⟩:=I.look;exact W.method_fn X J (W.plainGet_of hg).1 (W.plainGet_of hg).2 hf (U4.mp ht) (by show (W.lookIn name od).map (·.isSome)=some false;rw [hl,hv];rfl) h
def GZ{ns:List Str}{Q:Unit->Shared->Prop}(X:K.In s.heap)(I:FD s.heap x dx C mA)
  (hs:W.findIn K (.ref C) "__setattr__"=some (some (.builtin "object.__setattr__"))) (hp:W.plainOver K C=true) (ht:W.takerIn K C name=some none) (hh:W.hasDictIn K C=true)
  (hw:PySem.Within mA ns) (hsz:ns.length<=sizeLine)
  (h:∀ h',FD h' x dx C (λ y=>if y=name then some v else mA y)->Heap.SameBut dx s.heap h'->Q () { s with heap:=h',toks:=s.toks+2 }) :
  wpAny (model prog w) A (setAttr (.ref x) name v) Q E s:=by
 obtain⟨od,J,hl⟩:=I.look;refine W.set_plain X J hs (W.osa_open (s:={ s with toks:=s.toks+1 }) (r:=none) X J hp ht λ b=>?_);obtain⟨cd,hc,a3⟩:=W.any_some hh;have hx:s.heap.get? x=some ⟨.ref C,some dx,.plain,#[]⟩:=I.obj;refine My (Ri (My (My (wpAny_loadPart hx (My (W.Looks.here (s:={ s with toks:=s.toks+1 }) (W.looks_clsIn X hc) ?_))))));rw [a3];refine Ri (a:=some dx) (My (Ri (My ?_)));refine wpAny_nsSet1 (s:={ s with toks:=s.toks+1 }) I.ns λ h' aS aX=>?_;obtain⟨oD,a7,a8,a4,a5,a6⟩:=aS.count (PySem.Within.cons name v hw);refine My (wpAny_lookBehind a4 (by rw [a5];exact pastItsLine_dict (Sj a6 (by rw [Sy];omega))) ?_);exact Ri (h _ ⟨(aX.2 _ (Ru I.ne)).trans I.obj,aS,I.ne⟩ aX)
def Dp{R:Result->Shared->Prop}{vs:List Value}{kw:List (Str × Value)}(X:K.In s.heap)(hm:W.makesIn K C=true)
  (hi:W.findIn K (.ref C) "__init__"=some (some (.ref f))) (hf:W.typeIn K (.ref f)=some (.type "function"))
  (h:codeAny (model prog w) (A.under (.builtin "type.__call__" ⟨.ref C::vs,kw⟩)) (.call (.ref f) ⟨.ref (s.heap.objs.size+1)::vs,kw⟩) (W.InitBack (s.heap.objs.size+1) R)
   { s with heap:=(s.heap.push W.emptyDict).push (W.instObj C s.heap.objs.size) }) :
  codeAny (model prog w) A (.call (.ref C) ⟨vs,kw⟩) R s:=by
 obtain⟨hh,g,d,t,os⟩:=s;exact W.make_core (W.makes_of X hm) (W.looks_findIn X hi) (λ self=>W.bind_fn X self hf) (.inl rfl) h
end
def fV(f:Str)(v:V):List (Str × V)->List (Str × V)
 | []=>[(f,v)]
 | (g,x)::r=>if g=f then (g,v)::r else (g,x)::fV f v r
def aI(f g:Str)(v:V):∀ fs:List (Str × V),(fV f v fs).lookup g=if g=f then some v else fs.lookup g
 | []=>by
  show List.lookup g [(f,v)]=_
  by_cases h:g=f
  ·have hb:(g == f)=true:=U4.mpr h;simp only [List.lookup,hb,RP h]
  ·have hb:(g == f)=false:=Ta.mpr h;simp only [List.lookup,hb,RH h]
 | (k,x)::r=>by
  have ih:=aI f g v r;rw [show fV f v ((k,x)::r)=(if k=f then (k,v)::r else (k,x)::fV f v r) from rfl]
  by_cases hk:k=f
  ·rw [RP hk]
   by_cases h:g=k
   ·have hb:(g == k)=true:=U4.mpr h;simp only [List.lookup,hb,RP (h.trans hk)]
   ·have hb:(g == k)=false:=Ta.mpr h;simp only [List.lookup,hb,RH (λ e:g=f=>h (e.trans hk.symm))]
  ·rw [RH hk]
   by_cases h:g=k
   ·have hb:(g == k)=true:=U4.mpr h;simp only [List.lookup,hb,RH (λ e:g=f=>hk (h.symm.trans e))]
   ·have hb:(g == k)=false:=Ta.mpr h;simp only [List.lookup,hb];exact ih
def kX(f:Str)(v:V):∀ fs:List (Str × V),f∈(fV f v fs).map (·.1)/\∀ g,g∈fs.map (·.1)->g∈(fV f v fs).map (·.1)
 | []=>⟨by simp [fV],λ g h=>by simp at h⟩
 | (k,x)::r=>by
  obtain⟨i1,i2⟩:=kX f v r;rw [show fV f v ((k,x)::r)=(if k=f then (k,v)::r else (k,x)::fV f v r) from rfl]
  by_cases hk:k=f
  ·rw [RP hk];subst hk;exact⟨by simp,λ g h=>by simpa using h⟩
  ·rw [RH hk];refine⟨?_,λ g h=>?_⟩
   ·rw [Sh];exact Ro _ i1
   ·rw [Sh] at h ⊢
    rcases Rz.mp h with e|e
    ·exact Rz.mpr (.inl e)
    ·exact Ro _ (i2 g e)
def lF(f:Str)(v:V):∀ fs:List (Str × V),(fV f v fs).length<=fs.length+1
 | []=>by simp [fV]
 | (k,x)::r=>by
  have ih:=lF f v r;rw [show fV f v ((k,x)::r)=(if k=f then (k,v)::r else (k,x)::fV f v r) from rfl]
  by_cases hk:k=f
  ·rw [RP hk,Sy,Sy];omega
  ·rw [RH hk,Sy,Sy];omega
def pB.some_of{v:V}{o:Option Value}(r:pB (some v) o):∃ u,o=some u/\bD v u:=by
 cases o with
 | none=>exact(show False from r).elim
 | some u=>exact⟨u,rfl,r⟩
def pB.none_of{o:Option Value}(r:pB none o):o=none:=by
 cases o with
 | none=>rfl
 | some u=>exact(show False from r).elim
def Bp{v:V}{u:Value}(r:bD v u):W.handedIn u=true:=by
 cases v with
 | non=>cases (show u=Value.none from r);rfl
 | bl b=>cases (show u=Value.bool b from r);rfl
 | int i=>obtain⟨t,e⟩:=(show ∃ t,u=Value.int i t from r);cases e;rfl
 | str x=>obtain⟨t,e⟩:=(show ∃ t,u=Value.str x t from r);cases e;rfl
 | byt b=>obtain⟨t,e⟩:=(show ∃ t,u=Value.bytes b t from r);cases e;rfl
 | flt b=>obtain⟨t,e⟩:=(show ∃ t,u=Value.float b t from r);cases e;rfl
 | ref a=>cases (show u=Value.ref a from r);rfl
 | ty n=>cases (show u=Value.type n from r);rfl
section
variable {P:Program}{w:World}{H H':Hp}{h h':Heap}{a C dx:Addr}{fs fs':List (Str × V)}
def nL(hok:HOk P w H h)(e:H a=some (.ins C dx fs)):∃ mA,FD h a dx C mA/\(∀ f,pB (fs.lookup f) (mA f))/\PySem.Within mA (fs.map (·.1))/\fs.length<=1000/\H dx=some (.own a):=by
 obtain⟨d,z,ne,ob,mA,n,r,q⟩:=(show bW P w H h a (.ins C dx fs) from hok a _ e);exact⟨mA,⟨ob,n,ne⟩,r,q,z,d⟩
end
structure Cls(K:W.Frag)(C:Addr):Prop where
 pg:W.plainGet K C Str.empty=true
 hd:W.hasDictIn K C=true
 po:W.plainOver K C=true
 sa:W.findIn K (.ref C) "__setattr__"=some (some (.builtin "object.__setattr__"))
def Cls.get{K:W.Frag}{C:Addr}(c:Cls K C)(f:Str):W.plainGet K C f=true:=c.pg
def dm(K:W.Frag)(C:Addr)(f:Str):Prop:=W.findIn K (.ref C) f=some none
def dm.taker{K:W.Frag}{C:Addr}{f:Str}(n:dm K C f):W.takerIn K C f=some none:=by
 unfold W.takerIn;rw [show W.findIn K (.ref C) f=some none from n];rfl
structure rQ(K:W.Frag)(C:Addr)(m:Str)(f:Addr):Prop where
 at_:W.findIn K (.ref C) m=some (some (.ref f))
 fn:W.isFn K (.ref f)=true
 kp:W.keepIn K (.ref f)=true
section
variable {X:Cx}{pins:List (Addr × Obj)}{σ:St}{H:Hp}{s:Shared}{a C dx:Addr}{fs:List (Str × V)}{f:Str}{v:V}{A:Around}{E:Value->Shared->Prop}
def wM{b:Bool}{Q:Value->Shared->Prop}(I:Inv X pins σ H s)(e:H a=some (.ins C dx fs))(c:Cls X.K C)(n:dm X.K C f)(l:fs.lookup f=some v)
  (h:∀ u s',Inv X pins σ H s'->bD v u->Q u s'):wpAny (model X.prog X.w) A (getAttr (.ref a) f b) Q E s:=by
 obtain⟨mA,O,r,_,_,_⟩:=nL I.hok e;obtain⟨u,hu,ru⟩:=pB.some_of (v:=v) (o:=mA f) (by rw [←l];exact r f);exact Jm I.kIn O (c.get f) c.hd n hu (Bp ru) (h u _ (I.tok _) ru)
def mT{m:Str}{g:Addr}{pl:Sem Bool}{Q:Value × List Value->Shared->Prop}(I:Inv X pins σ H s)(e:H a=some (.ins C dx fs))(c:Cls X.K C)(k:rQ X.K C m g)(l:fs.lookup m=none)
  (h:Q (.ref g,[.ref a]) s):wpAny (model X.prog X.w) A (getMethod (.ref a) m pl) Q E s:=by
 obtain⟨mA,O,r,_,_,_⟩:=nL I.hok e;have hn:mA m=none:=pB.none_of (by rw [←l];exact r m);exact Eo I.kIn O (c.get m) k.at_ k.fn hn h
def vR{y:V}{u:Value}{Q:Unit->Shared->Prop}(I:Inv X pins σ H s)(e:H a=some (.ins C dx fs))(c:Cls X.K C)(n:dm X.K C f)(hl:fs.length < 1000)(ry:bD y u)
  (h:∀ s',Inv X pins σ (upd H a (.ins C dx (fV f y fs))) s'->Q () s'):wpAny (model X.prog X.w) A (setAttr (.ref a) f u) Q E s:=by
 obtain⟨mA,O,r,wi,_,ho⟩:=nL I.hok e;have hz:(fs.map (·.1)).length<=sizeLine:=by rw [Rh,sizeLine_eq];omega
 refine GZ I.kIn O c.sa c.po n.taker c.hd wi hz λ h' O' sb=>h _ ?_;have hd:∃ o,h'.get? dx=some o:=let ⟨o,_,_,e',_⟩:=O'.ns;⟨o,e'⟩;refine I.write (x:=a) (e:=dx) (by rw [e];exact True.intro) (.inr ho) (λ b q hb z=>(sb.2 b hb).trans z) hd ?_;refine⟨by rw [ah O.ne];exact ho,?_,O.ne,O'.obj,_,O'.ns,λ g=>?_,λ g hg=>?_⟩
 ·have:=lF f y fs;omega
 ·show pB ((fV f y fs).lookup g) (if g=f then some u else mA g)
  rw [aI]
  by_cases q:g=f
  ·rw [RP q,RP q];exact ry
  ·rw [RH q,RH q];exact r g
 ·by_cases q:g=f
  ·rw [q];exact(kX f y fs).1
  ·refine(kX f y fs).2 g (wi g λ z=>hg ?_)
   show (if g=f then some u else mA g)=none
   rw [RH q];exact z
def Inv.made(I:Inv X pins σ H s):Inv X pins σ (upd (upd H s.heap.objs.size (.own (s.heap.objs.size+1))) (s.heap.objs.size+1) (.ins C s.heap.objs.size []))
  { s with heap:=(s.heap.push W.emptyDict).push (W.instObj C s.heap.objs.size) }:=by
 have e1:(s.heap.push W.emptyDict).get? s.heap.objs.size=some W.emptyDict:=Rn s.heap rfl
 have e2:((s.heap.push W.emptyDict).push (W.instObj C s.heap.objs.size)).get? (s.heap.objs.size+1)=some (W.instObj C s.heap.objs.size):=by
  have:=Rn (s.heap.push W.emptyDict) (o:=W.instObj C s.heap.objs.size) rfl
  rwa [RT] at this
 have e3:(s.heap.push W.emptyDict).Ns s.heap.objs.size (λ _=>none):=⟨W.emptyDict,#[],_,e1,rfl,(λ e he=>absurd he (by simp)),λ _=>rfl⟩;have I1:=I.laid (a:=s.heap.objs.size) (o:=.own (s.heap.objs.size+1)) (h':=s.heap.push W.emptyDict) (t':=s.toks) (λ b u q=>Rc _ q) (Rl _) ⟨_,e1⟩;refine I1.laid (a:=s.heap.objs.size+1) (o:=.ins C s.heap.objs.size []) (t':=s.toks) (λ b u q=>Rc _ q) (Nat.le_of_eq (RT _ _)) ?_;have ne:s.heap.objs.size ≠ s.heap.objs.size+1:=RC (Ss _);refine⟨by rw [ah ne,aq],So _,ne,e2,λ _=>none,(Heap.Ns1.of_empty e3).at λ o q=>Rc _ q,λ _=>True.intro,λ y hy=>absurd rfl hy⟩
def JH{prog:Program}{w:World}{env:Env}{e:Expr}{f:Str}{pos:Pos}{s:Shared}{Q:Value->Shared->Prop}(hb:attributeBase e f env (eval e env)=eval e env)
  (h:wpAny (model prog w) A (eval e env) (λ o s₁=>wpAny (model prog w) A (getAttr o f true) Q E s₁) E s):wpAny (model prog w) A (eval (.Attribute e f pos) env) Q E s:=
 Attribute_any_ h (by rw [arm_eval_Attribute,hb])
end
section
variable {X:Cx}{o e value:Expr}{f:Str}{pos pos' tpos:Pos}{ta tv:TE}
end
section
variable {X:Cx}{pins:List (Addr × Obj)}{σ:St}{H:Hp}{s:Shared}{A:Around}{E:Value->Shared->Prop}{Q:Value->Shared->Prop}{c:Value}{b:Bool}
inductive ui (K:PySem.W.Frag) (H:Hp):V->Value->Prop where
 | non:ui K H .non (.type "NoneType")
 | bl (x:Bool):ui K H (.bl x) (.type "bool")
 | int (i:Int):ui K H (.int i) (.type "int")
 | str (x:Str):ui K H (.str x) (.type "str")
 | flt (x:UInt64):ui K H (.flt x) (.type "float")
 | lst {a:Addr} {xs:List V} (e:H a=some (.lst xs)):ui K H (.ref a) (.type "list")
 | frz {a:Addr} {o:Obj} {xs:List V} (e:H a=some (.frz o (.lst xs))):ui K H (.ref a) (.type "list")
 | tup {a:Addr} {xs:List V} (e:H a=some (.tup xs)):ui K H (.ref a) (.type "tuple")
 | dK {a:Addr} {kvs:List (Key × V)} (e:H a=some (.dK kvs)):ui K H (.ref a) (.type "dict")
 | dT {a:Addr} {kvs:List (List Key × V)} (e:H a=some (.dT kvs)):ui K H (.ref a) (.type "dict")
 | ins {a C dx:Addr} {fs:List (Str × V)} (e:H a=some (.ins C dx fs)) (cl:Cls K C) (ha:PySem.W.findIn K (.ref C) "__class__"=some (some (.builtin "object.__class__")))
   (hn:PySem.W.specialIn K (.builtin "object.__class__") "__get__"=some (some (.builtin "getset_descriptor.__get__"))) (htk:PySem.W.takesIn K (.builtin "object.__class__")=some true)
   (hm:PySem.W.mroIn K C (.type "object")=some true):ui K H (.ref a) (.ref C)
def Bl{x:V}{u t:Value}(I:Inv X pins σ H s)(rx:bD x u)(ty:ui X.K H x t)(e:W.kitOne X.K t c=some b)(h:∀ tk,Q (.bool b) { s with toks:=tk }) :
  wpAny (model X.prog X.w) A (call (.builtin "isinstance") [u,c]) Q E s:=by
 cases ty with
 | non=>cases (show u=Value.none from rx);exact Ud W.kitx_none I.kIn True.intro e (λ z=>nomatch z) h
 | bl y=>cases (show u=Value.bool y from rx);exact Ud W.kitx_bool I.kIn True.intro e (λ z=>nomatch z) h
 | int i=>obtain⟨t,q⟩:=(show ∃ t,u=Value.int i t from rx);cases q;exact Ud W.kitx_int I.kIn True.intro e (λ z=>nomatch z) h
 | str y=>obtain⟨t,q⟩:=(show ∃ t,u=Value.str y t from rx);cases q;exact Ud W.kitx_str I.kIn True.intro e (λ z=>nomatch z) h
 | flt y=>obtain⟨t,q⟩:=(show ∃ t,u=Value.float y t from rx);cases q;exact Ud W.kitx_float I.kIn True.intro e (λ z=>nomatch z) h
 | @lst a xs ea=>
  cases (show u=Value.ref a from rx);obtain⟨_,_,n,_,h1⟩:=(show bW X.prog X.w H s.heap a (.lst xs) from I.hok a _ ea);exact Ud W.kitx_list I.kIn ⟨_,h1,rfl⟩ e (λ z=>nomatch z) h
 | @frz a ob xs ea=>
  cases (show u=Value.ref a from rx);obtain⟨_,_,_,n,_,h1⟩:=(show bW X.prog X.w H s.heap a (.frz ob (.lst xs)) from I.hok a _ ea);exact Ud W.kitx_list I.kIn ⟨_,h1,rfl⟩ e (λ z=>nomatch z) h
 | @tup a xs ea=>
  cases (show u=Value.ref a from rx);obtain⟨_,_,_,p⟩:=(show bW X.prog X.w H s.heap a (.tup xs) from I.hok a _ ea);obtain⟨o,h1,h2,_⟩:=p;exact Ud W.kitx_tuple I.kIn ⟨o,h1,h2⟩ e (λ z=>nomatch z) h
 | @dK a kvs ea=>
  cases (show u=Value.ref a from rx);obtain⟨_,_,vs,_,p⟩:=(show bW X.prog X.w H s.heap a (.dK kvs) from I.hok a _ ea);obtain⟨o,es,ep,h1,h2,_⟩:=p;exact Ud W.kitx_dict I.kIn ⟨o,h1,h2.1⟩ e (λ z=>nomatch z) h
 | @dT a kvs ea=>
  cases (show u=Value.ref a from rx);obtain⟨_,_,xs,_,o,es,ep,h1,h2,_⟩:=(show bW X.prog X.w H s.heap a (.dT kvs) from I.hok a _ ea);exact Ud W.kitx_dict I.kIn ⟨o,h1,h2.1⟩ e (λ z=>nomatch z) h
 | @ins a C dx fs ea cl ha hn htk hm=>
  cases (show u=Value.ref a from rx);obtain⟨mA,O,_⟩:=nL I.hok ea;obtain⟨od,J,_⟩:=O.look;exact Ud (W.kitx_own (cl.get _) cl.hd ha hn htk hm) I.kIn J e (λ z=>nomatch z) h
end
structure jE(k:Nat)(A:Around):Prop where
 hd:A.handled=none
 dp:A.depth+3 * k+5 < recursionLimit
 un:A.units+16 * k+200 < cLine
def jE.mono{j k:Nat}{A:Around}(r:jE k A)(h:j<=k):jE j A:=⟨r.hd,by have:=r.dp;omega,by have:=r.un;omega⟩
def jE.deeper{k:Nat}{A:Around}(r:jE (k+1) A)(env:Env):jE k (A.deeper env):=
 ⟨r.hd,by have:=r.dp;show A.depth+1+3 * k+5 < _;omega,by have:=r.un;show A.units+3+16 * k+200 < _;omega⟩
def wd{A:Around}{C:Addr}{us:List Value}{kw:List (Str × Value)}:(A.under (.builtin "type.__call__" ⟨.ref C::us,kw⟩)).depth=A.depth+1:=by
 first|rfl|simp [Around.under,Code.weight,Code.isCreation,Code.isGuard,Code.isCaller,Code.frames,Code.isFrame,guardIds]
def wb{A:Around}{C:Addr}{us:List Value}{kw:List (Str × Value)}:(A.under (.builtin "type.__call__" ⟨.ref C::us,kw⟩)).units=A.units+1:=by
 first|rfl|simp [Around.under,Code.cUnits,Code.frames,Code.isFrame]
def jE.make{k:Nat}{A:Around}(r:jE (k+1) A)(C:Addr)(us:List Value)(kw:List (Str × Value)):jE k (A.under (.builtin "type.__call__" ⟨.ref C::us,kw⟩)):=
 ⟨r.hd,by have:=r.dp;rw [wd];omega,by have:=r.un;rw [wb];omega⟩
def jE.depth{k:Nat}{A:Around}(r:jE k A):A.depth < recursionLimit:=by have:=r.dp;omega
def jE.units{k:Nat}{A:Around}(r:jE k A):A.units+64 < cLine:=by have:=r.un;omega
def Ng:TA:=λ _ H Q=>Q [] H
def BX(ta:TE)(tr:TA):TA:=λ σ H Q=>ta σ H λ x H1=>tr σ H1 λ xs H2=>Q (x::xs) H2
section
variable {X:Cx}{e:Expr}{es:List Expr}{te:TE}{t:TA}{pos:Pos}
def cU:PA X [] Ng:=λ _ _ _ _ H Q I h=>Uo ⟨[],H,I,.nil,h⟩
def Ht(ha:PE X e te)(hr:PA X es t)(hs:starEach (e::es) X.env=(false,eval e X.env)::starEach es X.env:=by rfl):PA X (e::es) (BX te t):=by
 intro pos pins s σ H Q I h;rw [hs]
 show wpAny _ _ (spliced ((false,eval e X.env)::backTo pos (starEach es X.env))) _ _ s
 refine Ts (thn (ha pins s σ H _ I h) λ u s1 ⟨x,H1,I1,r1,q1⟩=>?_);exact thn (hr pos pins s1 σ H1 _ I1 q1) λ us s2 ⟨xs,H2,I2,r2,q2⟩=>⟨x::xs,H2,I2,.cons r1 r2,q2⟩
end
abbrev Sp:=List V->Hp->VK->XK->Prop
abbrev CXT:=List Env->Hp->Shared->XK->Value->Shared->Prop
structure E2(P:Program)(w:World)(K:W.Frag)(mg:Str->Option Value)(base:Heap)(A:Around)(outer:List Env)(s:Shared)(H:Hp):Prop where
 frames:A.frames=some outer
 mod:Mod K mg base
 bs:∀ b o,base.get? b=some o->s.heap.get? b=some o/\H b=none
 bsz:base.objs.size<=s.heap.objs.size
 funs:s.heap.FunFrames base outer
 frf:∀ b∈frs outer,H b=none
 hok:HOk P w H s.heap
 bare:AllBare s.gens
def CE(outer:List Env)(P:Program)(w:World)(H:Hp)(s:Shared)(Q:VK)(u:Value)(s':Shared):Prop:=
 ∃ v H',s'.os=s.os/\AllBare s'.gens/\Un (frs outer) [] H H' s.heap s'.heap/\HOk P w H' s'.heap/\bD v u/\Q v H'
def CR(CX:CXT)(outer:List Env)(P:Program)(w:World)(H:Hp)(s:Shared)(Q:VK)(E:XK)(r:Result)(s':Shared):Prop:=
 match r with
 | .ok (.ret u)=>CE outer P w H s Q u s'
 | .ok _=>False
 | .error e=>CX outer H s E e s'
structure bh(P:Program)(w:World)(K:W.Frag)(mg:Str->Option Value)(base:Heap)(CX:CXT)(k:Nat)(f:Addr)(fd:FuncData)(ps:List Str)(sp:Sp):Prop where
 len:∀ vs H Q E,sp vs H Q E->vs.length=ps.length
 run:∀ (A:Around) (outer:List Env) (s:Shared) (H:Hp) (args:Args) (us:List Value) (vs:List V) (Q:VK) (E:XK),jE k A->E2 P w K mg base A outer s H->BindsTo s fd args (ps.zip us)->aU vs us->sp vs H Q E →
  codeAny (model P w) A (.call (.ref f) args) (CR CX outer P w H s Q E) s
def bh.imp{P:Program}{w:World}{K:W.Frag}{mg:Str->Option Value}{base:Heap}{CX:CXT}{k:Nat}{f:Addr}{fd:FuncData}{ps:List Str}{sp aS:Sp}(F:bh P w K mg base CX k f fd ps sp)
  (h:∀ vs H Q E,aS vs H Q E->sp vs H Q E):bh P w K mg base CX k f fd ps aS:=
 ⟨λ vs H Q E q=>F.len vs H Q E (h _ _ _ _ q),λ A outer s H args us vs Q E hr he hb hv hs=>F.run A outer s H args us vs Q E hr he hb hv (h _ _ _ _ hs)⟩
def E2.make{P:Program}{w:World}{K:W.Frag}{mg:Str->Option Value}{base:Heap}{A:Around}{outer:List Env}{s:Shared}{H:Hp}(e:E2 P w K mg base A outer s H)(C:Addr)(us:List Value)(kw:List (Str × Value)) :
  E2 P w K mg base (A.under (.builtin "type.__call__" ⟨.ref C::us,kw⟩)) outer s H:=⟨by first|exact e.frames|(simpa [Around.under,Code.envs,Code.isFrame,pushEnvs] using e.frames),e.mod,e.bs,e.bsz,e.funs,e.frf,e.hok,e.bare⟩
section
variable {X:Cx}{pins:List (Addr × Obj)}{σ:St}{H:Hp}{s s':Shared}
def Inv.env0(I:Inv X pins σ H s):E2 X.prog X.w X.K X.mg X.base X.A X.stack s H:=
 ⟨I.ok.frames,I.ok.mod,I.bs,Sj I.ok.bsz I.sz,I.stack,I.stkFree,I.hok,I.bare⟩
def Inv.after{Q:VK}{u:Value}(I:Inv X pins σ H s)(h:CE X.stack X.prog X.w H s Q u s'):EP X pins σ Q u s':=by
 obtain⟨v,H',os,bare,un,hok,r,q⟩:=h;obtain⟨hh,g,d,t,aS⟩:=s';obtain rfl:aS=s.os:=os;exact⟨v,H',I.call (h':=hh) (g':=g) (d':=d) (t':=t) (ch:=[]) un hok bare (λ b z=>absurd z (by simp)),r,q⟩
end
def Kb(sp:Sp)(dvs:List V)(E:XK)(t:TA):TE:=λ σ H Q=>t σ H λ vs H1=>sp (vs++dvs) H1 Q E
def aw(K:W.Frag)(fd:FuncData)(ps:List Str)(ds:List Value):Prop:=
 ∀ (s:Shared) (us:List Value),K.In s.heap->(us++ds).length=ps.length->BindsTo s fd ⟨us,[]⟩ (ps.zip (us++ds))
def aw.all{K:W.Frag}{fd:FuncData}{ps:List Str}(h:∀ us:List Value,us.length=ps.length->bindArgs fd ⟨us,[]⟩=pure (ps.zip us)):aw K fd ps []:=λ s us _ hl=>by
 rw [T2] at hl ⊢;exact .of_eq (h us hl)
def kf(CX:CXT)(X:Cx)(E:XK):Prop:=∀ (pins:List (Addr × Obj)) (σ:St) (H:Hp) (s:Shared) (e:Value) (s':Shared),Inv X pins σ H s->CX X.stack H s E e s'->X.xe e s'
section
variable {X:Cx}{CX:CXT}{k:Nat}{f C:Addr}{fd:FuncData}{ps:List Str}{sp:Sp}{dvs:List V}{ds:List Value}{E:XK}{x m:Str}{p pos apos:Pos}{e o:Expr}{es:List Expr}{ta:TE}{t:TA}
def xX{pins:List (Addr × Obj)}{σ:St}{H:Hp}{s:Shared}{Q:VK}{us:List Value}{vs:List V}(F:bh X.prog X.w X.K X.mg X.base CX k f fd ps sp)(hr:jE k X.A)(hb:aw X.K fd ps ds)(hd:aU dvs ds)(hx:kf CX X E)
  (I:Inv X pins σ H s) (r:aU vs us) (h:sp (vs++dvs) H Q E):wpAny (model X.prog X.w) X.A (call (.ref f) us) (EP X pins σ Q) X.xe s:=by
 have r2:aU (vs++dvs) (us++ds):=r.append hd;have hl:(us++ds).length=ps.length:=by rw [←r2.length];exact F.len _ _ _ _ h
 refine wpAny_call (UM (F.run X.A X.stack s H ⟨us,[]⟩ (us++ds) (vs++dvs) Q E hr I.env0 (hb s us I.kIn hl) r2 h) λ r s' hq=>?_)
 cases r with
 | error e=>exact hx pins σ H s e s' I hq
 | ok fl=>
  cases fl with
  | ret u=>exact I.after hq
  | next=>exact False.elim hq
  | brk=>exact False.elim hq
  | cont=>exact False.elim hq
def yC(F:bh X.prog X.w X.K X.mg X.base CX k f fd ps sp)(hr:jE k X.A)(hg:Gl X x)(hm:X.mg x=some (.ref f))(hk:W.keepIn X.K (.ref f)=true)(hb:aw X.K fd ps ds)(hd:aU dvs ds)(hx:kf CX X E)
  (ha:PA X (e::es) t) (aS:(x == ("__debug__":Str))=false:=by decide) (he:starEach (e::es) X.env=(false,eval e X.env)::starEach es X.env:=by rfl) (aX:(backTo pos (starEach es X.env)).any (·.1)=false:=by rfl) :
  PE X (.Call (.Name x p) (e::es) [] pos) (Kb sp dvs E t):=by
 intro pins s σ H Q I h;refine S6 (sM I hg hm ?_ aS);refine W.callWith_K (h₀:=X.base) I.ok.mod.kin hk (thn (ha pos pins s σ H _ I h) λ us s1 ⟨vs,H1,I1,r,q⟩=>⟨I1.kIn,?_⟩) he aX;exact xX F hr hb hd hx I1 r q
structure Mk(K:W.Frag)(C f:Addr):Prop where
 makes:W.makesIn K C=true
 init:W.findIn K (.ref C) "__init__"=some (some (.ref f))
 fn:W.isFn K (.ref f)=true
 kp:W.keepIn K (.ref C)=true
def Cz{pins:List (Addr × Obj)}{σ:St}{H:Hp}{s:Shared}{Q:VK}{us:List Value}{vs:List V}(M:Mk X.K C f)(F:bh X.prog X.w X.K X.mg X.base CX k f fd ps sp)(hr:jE (k+1) X.A)(hb:aw X.K fd ps ds)(hd:aU dvs ds)
  (hx:kf CX X E) (I:Inv X pins σ H s) (r:aU vs us)
  (h:∀ x dx,H x=none->H dx=none->dx ≠ x->sp (.ref x::(vs++dvs)) (upd (upd H dx (.own x)) x (.ins C dx [])) (λ v H2=>v=.non/\Q (.ref x) H2) E) :
  wpAny (model X.prog X.w) X.A (call (.ref C) us) (EP X pins σ Q) X.xe s:=by
 have hq:=h (s.heap.objs.size+1) s.heap.objs.size (I.hok.fresh (Ur _)) (I.hok.fresh (Rl _)) (RC (Ss _));have I2:=Inv.made (C:=C) I;have r2:aU (V.ref (s.heap.objs.size+1)::(vs++dvs)) (Value.ref (s.heap.objs.size+1)::(us++ds)):=.cons rfl (r.append hd)
 have hl:(Value.ref (s.heap.objs.size+1)::us++ds).length=ps.length:=by
  have e:=r2.length;rw [F.len _ _ _ _ hq] at e;exact e.symm
 refine wpAny_call (Dp (f:=f) I.kIn M.makes M.init (U4.mp M.fn) (UM (F.run _ X.stack _ _ ⟨Value.ref (s.heap.objs.size+1)::us,[]⟩ (Value.ref (s.heap.objs.size+1)::(us++ds)) _ _ E (hr.make C us [])
  (I2.env0.make C us []) (hb _ (Value.ref (s.heap.objs.size+1)::us) I2.kIn hl) r2 hq) λ r s' aS=>?_))
 cases r with
 | error e=>exact hx pins σ _ _ e s' I2 aS
 | ok fl=>
  cases fl with
  | ret u=>
   obtain⟨v,H',I3,rv,ev,q3⟩:=I2.after aS;subst ev;exact⟨rv,⟨V.ref (s.heap.objs.size+1),H',I3,rfl,q3⟩⟩
  | next=>exact False.elim aS
  | brk=>exact False.elim aS
  | cont=>exact False.elim aS
end
def PK(X:Cx)(kws:List Keyword)(t:TA):Prop:=
 ∀ (pos:Pos) (pins:List (Addr × Obj)) (s:Shared) (σ:St) (H:Hp) (Q:List V->Hp->Prop),Inv X pins σ H s->t σ H Q->wpAny (model X.prog X.w) X.A (evalAll ((backToKw pos (keywordEach kws X.env)).map (·.2))) (AP X pins σ Q) X.xe s
section
variable {X:Cx}{CX:CXT}{k:Nat}{f C:Addr}{fd:FuncData}{ps ks:List Str}{sp:Sp}{E:XK}{x m:Str}{p pos apos kpos:Pos}{e o:Expr}{es:List Expr}{kws:List Keyword}{te ta:TE}{t tk:TA}{nm:Option Str}
def Fg:PK X [] Ng:=λ _ _ _ _ H Q I h=>wpAny_evalAll_nil ⟨[],H,I,.nil,h⟩
def yy(ha:PE X e te)(hr:PK X kws t):PK X (⟨nm,e,kpos⟩ :: kws) (BX te t):=by
 intro pos pins s σ H Q I h
 show wpAny _ _ (evalAll ((do let v ←eval e X.env;standAt pos;pure v)::(backToKw pos (keywordEach kws X.env)).map (·.2))) _ _ s
 refine wpAny_evalAll_cons (My (thn (ha pins s σ H _ I h) λ u s1 ⟨x,H1,I1,r1,q1⟩=>My (VN (Ri ?_))));exact thn (hr pos pins s1 σ H1 _ I1 q1) λ us s2 ⟨xs,H2,I2,r2,q2⟩=>⟨x::xs,H2,I2,.cons r1 r2,q2⟩
variable {g:List Value->List Value->List Value}{gV:List V->List V->List V}
end
structure ag(N P:List Str)(sc:Scope):Prop where
 kind:sc.kind=.function
 co:sc.isCoroutine=false
 gen:sc.isGenerator=false
 nd:N.Nodup
 pre:N.take P.length=P
 par:∀ x∈P,sc.names.lookup x=some .local\/sc.names.lookup x=some .cell
 nofree:∀ y∈sc.names,y.2 ≠ .free
def qJ{kindOf:Str->Option NameKind}{x:Str}:∀ {binds:List (Str × Value)}{m:Str->Option Value},(∀ v,(x,v) ∉ binds)->bindL kindOf binds m x=m x
 | [],_,_=>rfl
 | (n,v)::r,m,h=>by
  unfold bindL;rw [qJ λ w hw=>h w (mem_cons_of_mem _ hw)];split
  ·have:x ≠ n:=by rintro rfl;exact h v Rr
   simp [this]
  ·rfl
def qL{kindOf:Str->Option NameKind}{x:Str}:∀ {binds:List (Str × Value)}{m:Str->Option Value},(∀ v,(x,v) ∉ binds)->bindC kindOf binds m x=m x
 | [],_,_=>rfl
 | (n,v)::r,m,h=>by
  unfold bindC;rw [qL λ w hw=>h w (mem_cons_of_mem _ hw)];split
  ·rfl
  ·have:x ≠ n:=by rintro rfl;exact h v Rr
   simp [this]
def qK{kindOf:Str->Option NameKind}{x:Str}{v:Value}:∀ {P:List Str}{vs:List Value}{i:Nat}{m:Str->Option Value},P.Nodup->P[i]? = some x->vs[i]? = some v->kindOf x=some .local →
  bindL kindOf (P.zip vs) m x=some v
 | [],_,_,_,_,h,_,_=>by simp at h
 | _::_,[],_,_,_,_,h,_=>by simp at h
 | p::P,w::vs,0,m,nd,h1,h2,hk=>by
  simp at h1 h2;subst h1;subst h2
  show bindL kindOf ((p,w)::P.zip vs) m p=_
  unfold bindL;rw [qJ λ v hv=>(nodup_cons.mp nd).1 (of_mem_zip hv).1,if_pos hk];simp
 | p::P,w::vs,i+1,m,nd,h1,h2,hk=>by
  show bindL kindOf ((p,w)::P.zip vs) m x=_
  unfold bindL;exact qK (i:=i) (nodup_cons.mp nd).2 (by simpa using h1) (by simpa using h2) hk
def qM{kindOf:Str->Option NameKind}{x:Str}{v:Value}:∀ {P:List Str}{vs:List Value}{i:Nat}{m:Str->Option Value},P.Nodup->P[i]? = some x->vs[i]? = some v->kindOf x ≠ some .local →
  bindC kindOf (P.zip vs) m x=some v
 | [],_,_,_,_,h,_,_=>by simp at h
 | _::_,[],_,_,_,_,h,_=>by simp at h
 | p::P,w::vs,0,m,nd,h1,h2,hk=>by
  simp at h1 h2;subst h1;subst h2
  show bindC kindOf ((p,w)::P.zip vs) m p=_
  unfold bindC;rw [qL λ v hv=>(nodup_cons.mp nd).1 (of_mem_zip hv).1,if_neg hk];simp
 | p::P,w::vs,i+1,m,nd,h1,h2,hk=>by
  show bindC kindOf ((p,w)::P.zip vs) m x=_
  unfold bindC;exact qM (i:=i) (nodup_cons.mp nd).2 (by simpa using h1) (by simpa using h2) hk
def az(N:List Str)(vs:List V):St:=vs.map some++List.replicate (N.length - vs.length) none
def EZ(CX:CXT)(P:Program)(w:World)(K:W.Frag)(mg:Str->Option Value)(base:Heap)(N:List Str)(qual:Str)(scope:Scope)(f:Addr)(cd:Value)(A:Around)(outer:List Env)(s:Shared)(H:Hp)(E:XK):Cx where
 prog:=P
 w:=w
 K:=K
 mg:=mg
 base:=base
 A:=A.deeper (envOfC qual scope s.heap.objs.size f cd)
 N:=N
 s₀:=s
 H₀:=H
 env:=envOfC qual scope s.heap.objs.size f cd
 outer:=outer
 stack:=envOfC qual scope s.heap.objs.size f cd::outer
 ex:=[]
 calm:=true
 fn:=λ _=>true
 pn:=[]
 xe:=λ e s'=>wpAny (model P w) (A.deeper (envOfC qual scope s.heap.objs.size f cd)) (leaving (envOfC qual scope s.heap.objs.size f cd) e) (λ _ aS=>CX outer H s E e aS) (λ e' aS=>CX outer H s E e' aS) s'
def uZ{sc:Scope}{n:Nat}{x:Str}(h:sc.names.lookup x=some .cell):∃ c,(cellsFrom n sc.names []).lookup x=some c:=by
 have q:=W.cellsFrom_some sc.names n [] (.inl h);exact Sv.mp q
def Bm{CX:CXT}{P:Program}{w:World}{K:W.Frag}{mg:Str->Option Value}{base:Heap}{N ps:List Str}{qual:Str}{scope:Scope}{f:Addr}{cd:Value}{A:Around}{outer:List Env}{s s1:Shared}{H:Hp}{E:XK}{us:List Value}{vs:List V}
  (S:ag N ps scope) (hd:A.handled=none) (e0:E2 P w K mg base A outer s H) (hl:vs.length=ps.length) (r:aU vs us)
  (x:InCallC s s.heap.objs.size (bindL (envOfC qual scope s.heap.objs.size f cd).kindOf (ps.zip us) λ _=>none) (cellsFrom (s.heap.objs.size+1) scope.names []) (bindC (envOfC qual scope s.heap.objs.size f cd).kindOf (ps.zip us) λ _=>none) s1) :
  Inv (EZ CX P w K mg base N qual scope f cd A outer s H E) [] (az N vs) H s1:=by
 have a3:ps.length<=N.length:=by have:=SA List.length S.pre;rw [R0] at this;omega
 obtain⟨h1,tk,rfl,hk⟩:=x.done;have aS:∀ b:Addr,b ∉ (EZ CX P w K mg base N qual scope f cd A outer s H E).ex:=λ b z=>absurd (show b∈([]:List Addr) from z) (by simp)
 refine⟨⟨e0.mod,S.kind,rfl,rfl,Rl _,λ y z c h1 h2=>?_,λ y hy=>?_,λ y c _ h=>?_,λ _=>hd,Around.frames_deeper e0.frames,.inr ⟨rfl,rfl⟩,λ b z=>absurd z (aS b),e0.bs,e0.bsz,λ b _ _=>aS b,λ b z=>absurd z (aS b),e0.funs,e0.frf⟩,
  rfl,e0.bare,Un.kept hk,⟨_,x.toInCall.ns,λ i y v h1 h2 h3=>?_⟩,λ y c h=>⟨_,x.cell y c h⟩,e0.hok.fresh (Rl _),λ y c h=>?_,λ p hp=>absurd (show p∈([]:List (Addr × Obj)) from hp) (by simp),e0.hok.kept hk,?_⟩
 ·exact name_of_addr x.apart (TF h1) (TF h2)
 ·have hy:scope.names.lookup y=some .cell\/scope.names.lookup y=some .free:=hy
  rcases hy with hy|hy
  ·exact uZ hy
  ·exact absurd rfl (S.nofree _ (TF hy))
 ·exact Ue (x.above y c (TF h))
 ·have hi:i < vs.length:=by
   unfold az at h2
   by_cases hi:i < vs.length
   ·exact hi
   ·rw [R1 (by simpa using hi)] at h2;rw [UK] at h2
    split at h2<;>cases h2
  have ha:vs[i]? = some v:=by
   unfold az at h2;rw [getElem?_append_left (by simpa using hi),getElem?_map] at h2
   cases e:vs[i]? with
   | none=>rw [e] at h2;cases h2
   | some a=>rw [e] at h2;cases h2;rfl
  obtain⟨u,hu,rv⟩:=r.get ha
  have hp:ps[i]? = some y:=by
   rw [←S.pre,List.getElem?_take_of_lt (by omega)];exact h1
  have aX:ps.Nodup:=by rw [←S.pre];exact S.nd.sublist (List.take_sublist _ _)
  refine⟨u,rv,?_⟩
  rcases S.par y (Rx hp) with k|k
  ·exact .inl ⟨k,qK aX hp hu k⟩
  ·obtain⟨c,e⟩:=uZ (n:=s.heap.objs.size+1) k;refine .inr ⟨.inl k,c,e,?_⟩;have q:=x.cell y c e;rw [qM aX hp hu (by show scope.names.lookup y ≠ _;rw [k];decide)] at q;exact q
 ·exact e0.hok.fresh (Ue (x.above y c (TF h)))
 ·unfold az
  show _=N.length
  rw [RI,Rh,S3];omega
def KI{CX:CXT}{P:Program}{w:World}{K:W.Frag}{mg:Str->Option Value}{base:Heap}{k:Nat}{f:Addr}{name qual:Str}{params:Arguments}{body:List Stmt}{scope:Scope}{dV kV doc pm cdv ct oc:Value}{an od:Option Addr}
  {osl:Array (Option Value)} {N ps:List Str} {sp:Sp} (lk:K.lookup f=some ⟨oc,od,.func (W.fnOf name qual params body scope dV kV doc pm an cdv ct),osl⟩) (a4:W.codeIn K cdv qual=true) (S:ag N ps scope)
  (len:∀ vs H Q E,sp vs H Q E->vs.length=ps.length)
  (aS:∀ (A:Around) (outer:List Env) (s:Shared) (H:Hp) (vs:List V) (Q:VK) (E:XK),jE k (A.deeper (envOfC qual scope s.heap.objs.size f cdv))->sp vs H Q E →
   ∃ t,PSs (EZ CX P w K mg base N qual scope f cdv A outer s H E) body t/\t { nx:=λ _ H'=>Q .non H',rt:=Q } (az N vs) H) :
  bh P w K mg base CX (k+1) f (W.fnOf name qual params body scope dV kV doc pm an cdv ct) ps sp:=by
 refine⟨len,λ A outer s H args us vs Q E hr e0 hb r a3=>?_⟩;have hl:=len _ _ _ _ a3;have KX:K.In s.heap:=e0.mod.kin.keeps λ b o e=>(e0.bs b o e).1;have lim:s.heap.NoLimit:=e0.mod.nolimit.keeps λ b o e=>(e0.bs b o e).1
 have aX:∀ y∈ps.zip us,scope.names.lookup y.1=some .local\/(scope.names.lookup y.1=some .cell/\((cellsFrom (s.heap.objs.size+1) scope.names []).lookup y.1).isSome=true):=λ ⟨n,v⟩ hy=>by
  rcases S.par n (Tg hy).1 with q|q
  ·exact .inl q
  ·exact .inr ⟨q,W.cellsFrom_some _ _ _ (.inl q)⟩
 refine codeAny_call_function hr.depth (KX _ _ lk) rfl S.co S.gen rfl (W.codeRec_of KX a4) (hb _ _ _ _ ?_);refine wpAny_newFunctionEnv_cells S.kind aX λ env he s1 x=>?_;subst he;refine⟨lim.keeps x.toInCall.keep,codeAny_func ?_⟩;obtain⟨t,ht,hq⟩:=aS A outer s H vs Q E (hr.deeper _) a3;have I:Inv (EZ CX P w K mg base N qual scope f cdv A outer s H E) [] (az N vs) H s1:=Bm S hr.hd e0 hl r x;refine UT (ht [] s1 (az N vs) H _ I hq) (λ fl s' hs=>?_) λ e s' hs=>hs
 have fin:∀ {σ':St} {H':Hp} {v:V} {u:Value},Inv (EZ CX P w K mg base N qual scope f cdv A outer s H E) [] σ' H' s'->bD v u->Q v H'->CE outer P w H s Q u s':=
  λ {σ' H' v u} J rv q=>⟨v,H',J.os,J.bare,J.base,J.hok,rv,q⟩
 cases fl with
 | ret u=>
  obtain⟨v,σ',H',J,rv,q⟩:=hs;exact fin J rv q
 | next=>
  obtain⟨σ',H',J,q⟩:=hs;exact fin (v:=V.non) (u:=Value.none) J rfl q
 | brk=>
  obtain⟨_,_,_,q⟩:=hs;exact False.elim q
 | cont=>
  obtain⟨_,_,_,q⟩:=hs;exact False.elim q
section
variable {X:Cx}{x:Str}{p pos:Pos}{e:Expr}{es:List Expr}{t:TA}{id T:String}{r:List V->Hp->VK->Prop}
def tCB(r:List V->Hp->VK->Prop)(t:TA):TE:=λ σ H Q=>t σ H λ vs H1=>r vs H1 Q
def jR(hc:cu X (.builtin id) r)(hg:Gl X x)(hm:X.mg x=none)(hv:bootBuiltins x=some (.builtin id))(ha:PA X (e::es) t)(hn:x ≠ "__name__":=by decide)(aS:(x == ("__debug__":Str))=false:=by decide)
  (he:starEach (e::es) X.env=(false,eval e X.env)::starEach es X.env:=by rfl) (aX:(backTo pos (starEach es X.env)).any (·.1)=false:=by rfl):PE X (.Call (.Name x p) (e::es) [] pos) (tCB r t):=by
 intro pins s σ H Q I h;refine S6 (eN I hg hm hv ?_ hn aS);exact PyProof.Rows.callWith_builtin1 (thn (ha pos pins s σ H _ I h) λ us s1 ⟨vs,H1,I1,r1,q1⟩=>hc pins s1 σ H1 vs us Q I1 r1 q1) he aX
def zV(hc:cu X (.type T) r)(hg:Gl X x)(hm:X.mg x=none)(hv:bootBuiltins x=some (.type T))(ha:PA X (e::es) t)(hn:x ≠ "__name__":=by decide)(aS:(x == ("__debug__":Str))=false:=by decide)
  (he:starEach (e::es) X.env=(false,eval e X.env)::starEach es X.env:=by rfl) (aX:(backTo pos (starEach es X.env)).any (·.1)=false:=by rfl):PE X (.Call (.Name x p) (e::es) [] pos) (tCB r t):=by
 intro pins s σ H Q I h;refine S6 (eN I hg hm hv ?_ hn aS);exact RY (thn (ha pos pins s σ H _ I h) λ us s1 ⟨vs,H1,I1,r1,q1⟩=>hc pins s1 σ H1 vs us Q I1 r1 q1) he aX
end
end L2
namespace HT
open PySem PyProof.Rows
section
open PySem.SeqAt
open PySem.AutoSeq1 (wpAny_loadPart')
open PySem.MeetsSeq PySem.MeetsSeq2 PySem.MeetsSeq3
end
section
variable {prog:Program}{w:World}{A:Around}{E:Value->Shared->Prop}{s:Shared}
def cat_tup{t b:Addr}{vs ws:List Value}{Q:Value->Shared->Prop}(ht:IsTup s.heap t vs.toArray)(hb:IsTup s.heap b ws.toArray)(hv:vs ≠ [])
  (h1:ws=[]->Q (.ref t) s) (h2:ws ≠ []->Q (.ref s.heap.objs.size) { s with heap:=s.heap.push { cls:=.type "tuple",data:=.seq (vs++ws).toArray } })
  (hsz:vs.length+ws.length<=sizeLine):wpAny (model prog w) A (binaryOp .Add (.ref t) (.ref b)) Q E s:=by
 obtain⟨⟨cls,dd,data,sl⟩,ho,hc,n,hd⟩:=id ht;obtain⟨⟨a5,aX,data2,a3⟩,aS,a4,n2,hd2⟩:=id hb;simp only at hc hd a4 hd2;subst hc hd a4 hd2;have e:vs.toArray++ws.toArray=(vs++ws).toArray:=by simp
 by_cases hw:ws=[]
 ·exact concat_meets ⟨_,ho,rfl⟩ ⟨_,aS,rfl⟩ noFill_tuple_add seq_tuple_add UR UI (UH _ _)
   (tuple_addW1 t b vs.toArray ws.toArray n n2 dd aX sl a3 (by simpa using hv) (by simp [hw])) ⟨ho,aS,h1 hw⟩
 ·refine concat_meets ⟨_,ho,rfl⟩ ⟨_,aS,rfl⟩ noFill_tuple_add seq_tuple_add UR UI (UH _ _)
   (tuple_addW2 t b vs.toArray ws.toArray n n2 dd aX sl a3 (by simpa using hv) (by simpa using hw) (by rw [RJ,RJ];exact hsz)) ⟨ho,aS,?_⟩
  rw [e];exact h2 hw
def sIx(n d:Nat):Option Int->Nat
 | none=>d
 | some v=>if v < 0 then (v+(n:Int)).toNat else min v.toNat n
def sIx_none(n d:Nat):sIx n d none=d:=rfl
def sIx_nat(n d k:Nat):sIx n d (some (k:Int))=min k n:=by
 show (if (k:Int) < 0 then ((k:Int)+(n:Int)).toNat else min (k:Int).toNat n)=min k n
 rw [RH (by omega),Rt]
def K1(n d:Nat)(hd:d<=n)(o:Option Int):sIx n d o<=n:=by
 cases o with
 | none=>exact hd
 | some v=>
  show (if v < 0 then (v+(n:Int)).toNat else min v.toNat n)<=n
  by_cases hv:v < 0
  ·rw [RP hv];omega
  ·rw [RH hv];exact Nat.min_le_right _ _
def yT(v:Int)(n d:Nat):(if v < 0 then max (v+(n:Int)) 0 else min v (n:Int))=((sIx n d (some v):Nat):Int):=by
 show (if v < 0 then max (v+(n:Int)) 0 else min v (n:Int))=(((if v < 0 then (v+(n:Int)).toNat else min v.toNat n):Nat):Int)
 by_cases hv:v < 0
 ·simp only [RP hv];omega
 ·simp only [RH hv];omega
def xc(lo hi:Option Int)(n:Nat):Builtin.Slice.sliceAdjust lo hi 1 (n:Int)=(((sIx n 0 lo:Nat):Int),((sIx n n hi:Nat):Int)):=by
 have h1:¬ ((1:Int) < 0):=by omega
 unfold Builtin.Slice.sliceAdjust;simp only [h1,if_false];refine Prod.ext ?_ ?_
 ·cases lo with
  | none=>rfl
  | some v=>exact yT v n 0
 ·cases hi with
  | none=>rfl
  | some v=>exact yT v n n
def vU(i j:Nat):Builtin.Slice.slicePlaces (i:Int) (j:Int) 1=j - i:=by
 unfold Builtin.Slice.slicePlaces;have h1:(1:Int) > 0:=by omega
 simp only [h1,T5,Int.ediv_one]
 split<;>omega
def mK{v:Value}{o:Option Int}{Q:Option Int->Shared->Prop}(p:IsPart v o)(h:Q o s):wpAny (model prog w) A (Builtin.Slice.slicePartIndex v) Q E s:=by
 cases p with
 | none=>exact slicePart_none h
 | int i t=>exact slicePart_int h
def jI{sl:Addr}{vl vu:Value}{lo hi:Option Int}{n:Nat}{Q:Int × Int × Nat->Shared->Prop}(hs:s.heap.IsSliceOf sl vl vu .none)(pl:IsPart vl lo)(pu:IsPart vu hi)
  (h:Q (((sIx n 0 lo:Nat):Int),1,sIx n n hi - sIx n 0 lo) s):wpAny (model prog w) A (Builtin.Slice.sliceApplied (.ref sl) (pure (n:Int))) Q E s:=by
 obtain⟨os,aS,a3,aX⟩:=id hs;unfold Builtin.Slice.sliceApplied Builtin.Slice.sliceFields;refine wpAny_bind (wpAny_bind (wpAny_field aS aX (x:=vl) rfl (wpAny_bind (wpAny_field aS aX (x:=vu) rfl (wpAny_bind (wpAny_field aS aX (x:=.none) rfl (wpAny_pure ?_)))))));refine wpAny_bind (slicePart_none ?_)
 show wpAny _ _ (if ((1:Int) == 0)=true then _ else _) _ _ s
 rw [RH (by decide)];refine My (mK pl (My (mK pu (My (Ri ?_)))))
 show wpAny _ _ (match Builtin.Slice.sliceAdjust lo hi 1 (n:Int) with|(lo,hi)=>pure (lo,(1:Int),Builtin.Slice.slicePlaces lo hi 1)) _ _ s
 rw [xc lo hi n]
 show wpAny _ _ (pure (((sIx n 0 lo:Nat):Int),(1:Int),Builtin.Slice.slicePlaces ((sIx n 0 lo:Nat):Int) ((sIx n n hi:Nat):Int) 1)) _ _ s
 rw [vU];exact Ri h
def CO(xs:Array Value)(i k:Nat):((List.range k).filterMap λ (m:Nat)=>xs[((i:Int)+(m:Int) * 1).toNat]?).toArray=((xs.toList.drop i).take k).toArray:=by
 have e:(λ (m:Nat)=>xs[((i:Int)+(m:Int) * 1).toNat]?)=λ m=>xs[i+m]?:=by
  funext m;have:((i:Int)+(m:Int) * 1).toNat=i+m:=by omega
  rw [this]
 rw [e];have:=pick_run xs i k;rw [List.filterMap_map] at this;have e2:((λ x=>xs[x]?) ∘ λ x=>i+x)=λ m=>xs[i+m]?:=rfl;rw [e2] at this;rw [this]
def getItem_tuple_cut{t sl:Addr}{items:Array Value}{vl vu:Value}{lo hi:Option Int}{Q:Value->Shared->Prop}(ht:IsTup s.heap t items)(hs:s.heap.IsSliceOf sl vl vu .none)(pl:IsPart vl lo)(pu:IsPart vu hi)
  (hw:¬ (sIx items.size 0 lo=0/\sIx items.size items.size hi=items.size))
  (h:Q (.ref s.heap.objs.size) { s with heap:=s.heap.push { cls:=.type "tuple",data:=.seq ((items.toList.drop (sIx items.size 0 lo)).take (sIx items.size items.size hi - sIx items.size 0 lo)).toArray } })
  (hsz:items.size<=sizeLine):wpAny (model prog w) A (getItem (.ref t) (.ref sl)) Q E s:=by
 have aS:sizeOk (.seq ((items.toList.drop (sIx items.size 0 lo)).take (sIx items.size items.size hi - sIx items.size 0 lo)).toArray):=by
  show ((items.toList.drop (sIx items.size 0 lo)).take (sIx items.size items.size hi - sIx items.size 0 lo)).toArray.size<=sizeLine
  rw [RJ,R0,Ui,Uv];omega
 have hj:sIx items.size items.size hi<=items.size:=K1 _ _ (Nat.le_refl _) hi;obtain⟨os,aX,a3,a6⟩:=id hs;have a4:s.TypeIs (.ref sl) "slice":=⟨os,aX,a3⟩;unfold getItem
 try with_reducible refine SH ?_
 first|refine My (Ri ?_)|skip
 refine My (wpAny_sequenceKey ht.typeIs (by decide) ?_)
 refine My (Si (name:=Str.ofString "__getitem__") ht.typeIs T6
  (SM T6 ht.typeIs entry_tuple_getitem ?_ (args_tuple_getitem _ _)))
 show wpAny _ _ (Builtin.Tuple.tupleItemsOf (.ref t) >>= _) _ _ s
 refine My (tupleItemsOf_ ht ?_);refine My (wpAny_typeOf a4 ?_);rw [RP (by decide)];refine My (jI hs pl pu ?_)
 have a5:¬ ((((sIx items.size 0 lo:Nat):Int) == 0 && (1:Int) == 1 && (sIx items.size items.size hi - sIx items.size 0 lo) == items.size)=true):=by
  intro q;rw [SF,SF] at q;have q1:((sIx items.size 0 lo:Nat):Int)=0:=eq_of_beq q.1.1;have q2:sIx items.size items.size hi - sIx items.size 0 lo=items.size:=eq_of_beq q.2;exact hw ⟨by omega,by omega⟩
 show wpAny _ _ (if (((sIx items.size 0 lo:Nat):Int) == 0 && (1:Int) == 1 && (sIx items.size items.size hi - sIx items.size 0 lo) == items.size)=true then _ else _) _ _ s
 rw [RH a5,CO]
 first
  | exact My (m:=Builtin.Tuple.tupleExact _) (SR (Ri ⟨_,rfl,Ri h⟩) aS)
  | exact My (m:=Builtin.Tuple.tupleExact _) (SR (My (Ri (Ri ⟨_,rfl,Ri h⟩))) aS)
  | exact My (My (m:=Builtin.Tuple.tupleExact _) (SR (Ri (Ri ⟨_,rfl,Ri h⟩)) aS))
  | exact My (My (m:=Builtin.Tuple.tupleExact _) (SR (Ri ⟨_,rfl,Ri h⟩) aS))
end
end HT
namespace L2
open PySem PySem.Spec PyProof.Rows
abbrev TO:=St->Hp->(Option Int->Hp->Prop)->Prop
def PO(X:Cx)(e:Option Expr)(t:TO):Prop:=
 ∀ (pins:List (Addr × Obj)) (s:Shared) (σ:St) (H:Hp) (Q:Option Int->Hp->Prop),Inv X pins σ H s->t σ H Q →
  wpAny (model X.prog X.w) X.A (evalPart e X.env) (λ u s'=>∃ o H',Inv X pins σ H' s'/\IsPart u o/\Q o H') X.xe s
def yo:TO:=λ _ H Q=>Q none H
def J6(t:TE):TO:=λ σ H Q=>t σ H λ x H1=>∃ i,x=.int i/\Q (some i) H1
def wL{ns:List Int}:∀ {us:List Value},aU (ns.map V.int) us->IntsAre us ns:=by
 induction ns with
 | nil=>intro us r;rw [Vg] at r;cases r;exact .nil
 | cons n ns ih=>
  intro us r;rw [Sh] at r
  cases r with
  | cons r1 r2=>
   obtain⟨t,e⟩:=r1;subst e;exact .cons n t (ih r2)
section
variable {X:Cx}{e:Expr}{te:TE}{lo hi:Option Expr}{tl th:TO}{pos p2:Pos}
def gY:PO X none yo:=by
 intro pins s σ H Q I h;rw [evalPart_none];exact Ri ⟨none,H,I,.none,h⟩
def gX(h:PE X e te):PO X (some e) (J6 te):=by
 intro pins s σ H Q I hw;rw [evalPart_some];refine thn (h pins s σ H _ I hw) λ u s1 ⟨x,H1,I1,r1,q1⟩=>?_;obtain⟨i,rfl,q⟩:=q1;obtain⟨t,rfl⟩:=r1;exact⟨some i,H1,I1,.int i t,q⟩
def SlR(X:Cx)(r:V->Option Int->Option Int->Hp->VK->Prop):Prop:=
 ∀ (pins:List (Addr × Obj)) (s:Shared) (σ:St) (H:Hp) (x:V) (v vl vu:Value) (lo hi:Option Int) (sl:Addr) (Q:VK),Inv X pins σ H s->bD x v->s.heap.IsSliceOf sl vl vu .none->IsPart vl lo->IsPart vu hi->r x lo hi H Q →
  ∃ T id,typeLookup (.type T) "__getitem__"=pure (some (.builtin id))/\s.TypeIs v T/\wpAny (model X.prog X.w) X.A (getItem v (.ref sl)) (EP X pins σ Q) X.xe s
def tSl(r:V->Option Int->Option Int->Hp->VK->Prop)(te:TE)(tl th:TO):TE:=λ σ H Q=>te σ H λ x H1=>tl σ H1 λ l H2=>th σ H2 λ u H3=>r x l u H3 Q
def CQ{r:V->Option Int->Option Int->Hp->VK->Prop}(hr:SlR X r)(he:PE X e te)(hl:PO X lo tl)(hu:PO X hi th):PE X (.Subscript e (.Slice lo hi none p2) pos) (tSl r te tl th):=by
 intro pins s σ H Q I h;refine Subscript_ (thn (he pins s σ H _ I h) λ v s1 ⟨x,H1,I1,r1,q1⟩=>?_);refine wpAny_Slice (thn (hl pins s1 σ H1 _ I1 q1) λ vl s2 ⟨l,H2,I2,pl,q2⟩=>thn (hu pins s2 σ H2 _ I2 q2) λ vu s3 ⟨u,H3,I3,pu,q3⟩=>?_);rw [evalPart_none];refine Ri ?_;have I4:Inv X pins σ H3 { s3 with heap:=s3.heap.push { cls:=.type "slice",data:=.fields #[vl,vu,.none] } }:=I3.kept (t':=s3.toks) λ b ob q=>Rc _ q;obtain⟨T,id,hT,ht,hg⟩:=hr pins { s3 with heap:=s3.heap.push { cls:=.type "slice",data:=.fields #[vl,vu,.none] } } σ H3 x v vl vu l u s3.heap.objs.size Q I4 r1 (Heap.IsSliceOf.new ..) pl pu q3
 show wpAny (model X.prog X.w) X.A (subscriptTail e (.Slice lo hi none p2) v (.ref s3.heap.objs.size)) (EP X pins σ Q) X.xe { s3 with heap:=s3.heap.push { cls:=.type "slice",data:=.fields #[vl,vu,.none] } }
 exact tail_any (ops:=[.ref s3.heap.objs.size,v]) ht hT hg (by with_unfolding_all rfl)
def mx(xs:List V)(lo hi:Option Int):List V:=(xs.drop (HT.sIx xs.length 0 lo)).take (HT.sIx xs.length xs.length hi - HT.sIx xs.length 0 lo)
def lG(xs:List V)(lo hi:Option Int):(mx xs lo hi).length<=xs.length:=by
 unfold mx;rw [length_take,length_drop];omega
def QJ(K:W.Frag):V->Option Int->Option Int->Hp->VK->Prop:=λ x lo hi H Q=>∃ a xs,x=.ref a/\SqT K H a xs /\
 ¬ (HT.sIx xs.length 0 lo=0/\HT.sIx xs.length xs.length hi=xs.length)/\∀ p,H p=none->Q (.ref p) (upd H p (.tup (mx xs lo hi)))
def K0:SlR X (QJ X.K):=by
 intro pins s σ H x v vl vu lo hi sl Q I rx hs pl pu h;obtain⟨a,xs,rfl,hx,hw,q⟩:=h;cases rx;obtain⟨its,r,ht,hz⟩:=I.tuple hx;have hlen:its.toArray.size=xs.length:=by rw [RJ];exact r.length.symm
 refine⟨"tuple",_,T6.lookup,ht.typeIs,?_⟩;refine HT.getItem_tuple_cut ht hs pl pu (by rw [hlen];exact hw) ?_ (by rw [hlen];exact hz);rw [hlen];refine⟨.ref s.heap.objs.size,_,I.laid (t':=s.toks) (o:=.tup (mx xs lo hi)) (λ b ob q=>Rc _ q) (Rl _) ?_,rfl,q _ (I.hok.fresh (Rl _))⟩;exact⟨Sj (lG xs lo hi) hz,_,(r.drop (HT.sIx xs.length 0 lo)).take (HT.sIx xs.length xs.length hi - HT.sIx xs.length 0 lo),IsTup.new _ _⟩
def OA(K:W.Frag):R2:=λ x y H Q=>∃ a b xs ys,x=.ref a/\y=.ref b/\SqT K H a xs/\SqT K H b ys/\xs ≠ []/\xs.length+ys.length<=sizeLine /\
 (ys=[]->Q (.ref a) H)/\(ys ≠ []->∀ p,H p=none->Q (.ref p) (upd H p (.tup (xs++ys))))
def aU.nil_iff{xs:List V}{us:List Value}(r:aU xs us):us=[] ↔ xs=[]:=by
 cases r with
 | nil=>simp
 | cons _ _=>simp
def Hy:OpR X (binaryOp .Add) (OA X.K):=by
 intro pins s σ H x y v u Q I rx ry h;obtain⟨a,b,xs,ys,rfl,rfl,ha,hb,hx,hz,q1,q2⟩:=h;cases rx;cases ry;obtain⟨its,r1,p1,_⟩:=I.tuple ha;obtain⟨aS,r2,p2,_⟩:=I.tuple hb;refine HT.cat_tup p1 p2 (λ z=>hx (r1.nil_iff.mp z)) (λ z=>⟨.ref a,H,I,rfl,q1 (r2.nil_iff.mp z)⟩) (λ z=>?_) (by rw [←r1.length,←r2.length];exact hz);refine⟨.ref s.heap.objs.size,_,I.laid (t':=s.toks) (o:=.tup (xs++ys)) (λ b ob q=>Rc _ q) (Rl _) ?_,rfl,q2 (λ w=>z (r2.nil_iff.mpr w)) _ (I.hok.fresh (Rl _))⟩;exact⟨by rw [RI];exact hz,_,r1.append r2,IsTup.new _ _⟩
end
def ixN(n:Nat)(i:Int):Option Nat:=if 0<=i then (if i < n then some i.toNat else none) else if -(n:Int)<=i then some (i+n).toNat else none
def atI{α:Type}(xs:List α)(i:Int):Option α:=(ixN xs.length i).bind λ j=>xs[j]?
def yJ{n:Nat}{i:Int}{j:Nat}(h:ixN n i=some j):seqIndex? i n=some j/\j < n/\-(n:Int)<=i/\i < n:=by
 unfold ixN at h
 by_cases h0:0<=i
 ·rw [RP h0] at h
  by_cases h1:i < n
  ·rw [RP h1] at h;have e:i.toNat=j:=RE h;exact⟨by rw [seqIndex_of h0 h1,e],by omega,by omega,h1⟩
  ·rw [RH h1] at h;cases h
 ·rw [RH h0] at h
  by_cases h1:-(n:Int)<=i
  ·rw [RP h1] at h;have e:(i+n).toNat=j:=RE h;exact⟨by rw [seqIndex_neg (by omega) h1,e],by omega,h1,by omega⟩
  ·rw [RH h1] at h;cases h
def zo{α:Type}{xs:List α}{i:Int}{v:α}(h:atI xs i=some v):∃ j,seqIndex? i xs.length=some j/\xs[j]? = some v/\j < xs.length/\-(xs.length:Int)<=i/\i < xs.length:=by
 unfold atI at h
 cases e:ixN xs.length i with
 | none=>rw [e] at h;cases h
 | some j=>
  rw [e] at h;obtain⟨h1,h2,h3,h4⟩:=yJ e;exact⟨j,h1,h,h2,h3,h4⟩
def cI{α:Type}{xs:List α}{j:Nat}{v:α}(h:xs[j]? = some v):atI xs (j:Int)=some v:=by
 have hj:j < xs.length:=(Rf.mp h).1
 have e:ixN xs.length (j:Int)=some j:=by
  unfold ixN;rw [if_pos (by omega),if_pos (by omega)];simp
 unfold atI;rw [e];exact h
def JM(b:Expr):Prop:=∀ o i,subscripted b false o i=operate [o,i] (getItem o i)
def IxR(X:Cx)(r:R2):Prop:=
 ∀ (value slice:Expr) (pins:List (Addr × Obj)) (s:Shared) (σ:St) (H:Hp) (x y:V) (v u:Value) (Q:VK),Inv X pins σ H s->bD x v->bD y u->r x y H Q →
  subscripted slice false v u=operate [v,u] (getItem v u)->wpAny (model X.prog X.w) X.A (subscriptTail value slice v u) (EP X pins σ Q) X.xe s
def MtR(X:Cx)(id:String)(r:V->List V->Hp->VK->Prop):Prop:=
 ∀ (pins:List (Addr × Obj)) (s:Shared) (σ:St) (H:Hp) (x:V) (xs:List V) (v:Value) (us:List Value) (Q:VK),Inv X pins σ H s->bD x v->aU xs us->r x xs H Q →
  wpAny (model X.prog X.w) X.A (call (.builtin id) (v::us)) (EP X pins σ Q) X.xe s
section
variable {X:Cx}{a b:Expr}{ta tb:TE}{pos:Pos}
def IxR.or{r r':R2}(h:IxR X r)(h':IxR X r'):IxR X (λ x y H Q=>r x y H Q\/r' x y H Q):=by
 intro value slice pins s σ H x y v u Q I rx ry q hs
 rcases q with q|q
 ·exact h value slice pins s σ H x y v u Q I rx ry q hs
 ·exact h' value slice pins s σ H x y v u Q I rx ry q hs
def FY{r:R2}(hr:IxR X r)(ha:PE X a ta)(hb:PE X b tb)(hs:JM b):PE X (.Subscript a b pos) (tOp r ta tb):=by
 intro pins s σ H Q I h;exact Subscript_ (Ow ha hb I h λ v u s2 x y H2 I2 rx ry q=>hr a b pins s2 σ H2 x y v u Q I2 rx ry q (hs _ _))
def QO(K:W.Frag):R2:=λ x y H Q=>∃ p xs i v,x=.ref p/\y=.int i/\SqL K H p xs/\atI xs i=some v/\Q v H
def QN(K:W.Frag):R2:=λ x y H Q=>∃ p xs i v,x=.ref p/\y=.int i/\SqT K H p xs/\atI xs i=some v/\Q v H
def sN:IxR X (QO X.K):=by
 intro value slice pins s σ H x y v u Q I rx ry h hs;obtain⟨p,xs,i,z,rfl,rfl,hq,he,q⟩:=h;cases rx;obtain⟨t,rfl⟩:=ry;obtain⟨its,r,pl,hz⟩:=I.list hq;obtain⟨j,h1,h2,h3,h4,h5⟩:=zo he;obtain⟨w,ew,aS⟩:=r.get h2;have hl:=r.length;have hn:=mC;have fin:EP X pins σ Q w s:=⟨z,H,I,aS,q⟩
 by_cases h0:0<=i
 ·have hj:i.toNat=j:=by
   rw [seqIndex_of h0 h5] at h1;exact RE h1
  exact item_listR pl.isList h0 (by omega) (by rw [hj];simpa using ew) fin hs
 ·have hj:(i+(its.toArray.size:Int)).toNat=j:=by
   rw [seqIndex_neg (by omega) h4] at h1;rw [RJ,←hl];exact RE h1
  exact subscriptTail_builtinR (x:=w) pl.isList.typeIs slot_list_getitem.lookup
   (wpAny_getItem_list_neg (Q:=λ r s'=>r=w/\EP X pins σ Q r s') pl.isList (by omega) (by rw [RJ]<;>omega) (by omega) (by rw [hj];simpa using ew) ⟨rfl,fin⟩) hs
def M3:IxR X (QN X.K):=by
 intro value slice pins s σ H x y v u Q I rx ry h hs;obtain⟨p,xs,i,z,rfl,rfl,hq,he,q⟩:=h;cases rx;obtain⟨t,rfl⟩:=ry;obtain⟨its,r,pl,hz⟩:=I.tuple hq;obtain⟨j,h1,h2,h3,h4,h5⟩:=zo he;obtain⟨w,ew,aS⟩:=r.get h2;have hl:=r.length;have hn:=mC;have fin:EP X pins σ Q w s:=⟨z,H,I,aS,q⟩
 exact subscriptTail_builtinR (x:=w) pl.typeIs slot_tuple_getitem.lookup
  (getItem_tuple (j:=j) (Q:=λ r s'=>r=w/\EP X pins σ Q r s') pl (by omega) (by omega) (by rw [RJ,←hl];exact h1) (by simpa using ew) ⟨rfl,fin⟩) hs
def wa(its:List Value)(n j:Nat)(u:Value):Obj.mapSeq (·.setIfInBounds j u) { cls:=.type "list",data:=.seq its.toArray n }={ cls:=.type "list",data:=.seq (its.set j u).toArray n }:=by
 simp [Obj.mapSeq]
def Inv.lst{pins:List (Addr × Obj)}{σ:St}{H:Hp}{s:Shared}{p:Addr}{xs:List V}(I:Inv X pins σ H s)(h:H p=some (.lst xs)) :
  ∃ (its:List Value) (n:Nat),aU xs its/\s.heap.get? p=some { cls:=.type "list",data:=.seq its.toArray n }/\xs.length<=sizeLine:=by
 obtain⟨z,its,n,r,e⟩:=I.hok p _ h;exact⟨its,n,r,e,z⟩
def Inv.lstUpd{pins:List (Addr × Obj)}{σ:St}{H:Hp}{s:Shared}{p:Addr}{xs ys:List V}{its its':List Value}{n n':Nat}{f:Obj->Obj}(I:Inv X pins σ H s)(h:H p=some (.lst xs))
  (ho:s.heap.get? p=some { cls:=.type "list",data:=.seq its.toArray n }) (hf:f { cls:=.type "list",data:=.seq its.toArray n }={ cls:=.type "list",data:=.seq its'.toArray n' }) (r:aU ys its') (hz:ys.length<=sizeLine) (t:Nat) :
  Inv X pins σ (upd H p (.lst ys)) { s with heap:=s.heap.update p f,toks:=t }:=by
 have e:(s.heap.update p f).get? p=some { cls:=.type "list",data:=.seq its'.toArray n' }:=by
  rw [R3 f ho (by rw [hf]<;>rfl),hf]
 refine I.write (x:=p) (e:=p) (by rw [h];trivial) (.inl rfl) (λ b u hb q=>(RK _ _ (Ru hb)).trans q) ⟨_,e⟩ ?_;exact⟨hz,its',n',r,e⟩
def Kh:V->V->V->Hp->(Hp->Prop)->Prop:=λ o i v H Q=>∃ p xs k j,o=.ref p/\i=.int k/\H p=some (.lst xs)/\ixN xs.length k=some j/\Q (upd H p (.lst (xs.set j v)))
def jO:QB X Kh:=by
 intro pins s σ H o i v ov iv u Q I ro ri rv h;obtain⟨p,xs,k,j,rfl,rfl,hp,hj,q⟩:=h;cases ro;obtain⟨t,rfl⟩:=ri;obtain⟨its,n,r,ho,hz⟩:=I.lst hp;obtain⟨h1,h2,h3,h4⟩:=yJ hj;have hl:=r.length;have hn:=mC
 have I':Inv X pins σ (upd H p (.lst (xs.set j v))) { s with heap:=s.heap.update p (Obj.mapSeq (·.setIfInBounds j u)) }:=
  I.lstUpd hp ho (wa its n j u) (r.set rv j) (by rw [Th];exact hz) s.toks
 by_cases h0:0<=k
 ·have hk:k.toNat=j:=by
   rw [seqIndex_of h0 h4] at h1;exact RE h1
  exact W.ki_setAt ho h0 (by omega) (by rw [RJ,←hl];exact h4) (by rw [hk];exact⟨_,I',q⟩)
 ·have hk:(k+(its.toArray.size:Int)).toNat=j:=by
   rw [seqIndex_neg (by omega) h3] at h1;rw [RJ,←hl];exact RE h1
  exact W.ki_setBack ho (by omega) (by rw [RJ,←hl];exact h3) (by omega) (by rw [hk];exact⟨_,I',q⟩)
def qZ(lo hi:Option Int)(n:Nat):(sliceBounds lo hi none n).1=((HT.sIx n 0 lo:Nat):Int)/\(sliceBounds lo hi none n).2.1=((HT.sIx n n hi:Nat):Int)/\(sliceBounds lo hi none n).2.2=1:=by
 refine⟨?_,?_,rfl⟩
 ·cases lo with
  | none=>simp [sliceBounds,HT.sIx]
  | some i=>
   simp only [sliceBounds,HT.sIx,VD,show (1:Int) > 0 by decide,T5]
   by_cases h:i < 0
   ·simp only [h,T5]<;>omega
   ·simp only [h,Ua]<;>omega
 ·cases hi with
  | none=>simp [sliceBounds,HT.sIx]
  | some i=>
   simp only [sliceBounds,HT.sIx,VD,show (1:Int) > 0 by decide,T5]
   by_cases h:i < 0
   ·simp only [h,T5]<;>omega
   ·simp only [h,Ua]<;>omega
def oP(its:List Value)(lo hi:Option Int):slicePick its.toArray lo hi none=((its.drop (HT.sIx its.length 0 lo)).take (HT.sIx its.length its.length hi - HT.sIx its.length 0 lo)).toArray:=by
 obtain⟨h1,h2,h3⟩:=qZ lo hi its.toArray.size;unfold slicePick;rw [h1,h2,h3]
 simp only [sliceRange_one,pick_run,RJ]<;>rfl
def QK(K:W.Frag):V->Option Int->Option Int->Hp->VK->Prop:=λ x lo hi H Q=>∃ a xs,x=.ref a/\SqL K H a xs/\∀ p,H p=none->Q (.ref p) (upd H p (.lst (mx xs lo hi)))
def GY:SlR X (QK X.K):=by
 intro pins s σ H x v vl vu lo hi sl Q I rx hs pl pu h;obtain⟨a,xs,rfl,hx,q⟩:=h;cases rx;obtain⟨its,r,ht,hz⟩:=I.list hx;have hlen:=r.length;refine⟨"list",_,slot_list_getitem.lookup,ht.isList.typeIs,?_⟩;refine wpAny_getItem_list_slice ht.isList hs pl pu .none (by simp) ?_ (by rw [RJ]<;>omega);rw [oP,←hlen];refine⟨.ref s.heap.objs.size,_,I.laid (t':=s.toks) (o:=.lst (mx xs lo hi)) (λ b ob q=>Rc _ q) (Rl _) ?_,rfl,q _ (I.hok.fresh (Rl _))⟩;exact⟨Sj (lG xs lo hi) hz,_,0,(r.drop (HT.sIx xs.length 0 lo)).take (HT.sIx xs.length xs.length hi - HT.sIx xs.length 0 lo),Rn _ rfl⟩
def iA:V->Bool
 | .non=>true
 | .bl _=>true
 | .int _=>true
 | .str _=>true
 | _=>false
def eqV:V->V->Bool
 | .non,.non=>true
 | .bl a,.bl b=>a == b
 | .bl a,.int b=>(if a then 1 else 0) == b
 | .int a,.bl b=>a == (if b then 1 else 0)
 | .int a,.int b=>a == b
 | .str a,.str b=>a == b
 | _,_=>false
def M5{A:Around}{s:Shared}{y x:V}{u v:Value}(ry:bD y u)(rx:bD x v)(fy:iA y=true)(fx:iA x=true):SeqAt.EqAt A s u v (eqV y x):=by
 cases y with
 | non=>
  cases ry
  cases x with
  | non=>cases rx;exact SeqAt.EqAt.same _
  | bl b=>cases rx;exact SeqAt.EqAt.none_bool b
  | int b=>obtain⟨t,rfl⟩:=rx;exact SeqAt.EqAt.none_int b t
  | str b=>obtain⟨t,rfl⟩:=rx;exact SeqAt.EqAt.none_str b t
  | _=>exact absurd (show false=true from fx) Rw
 | bl a=>
  cases ry
  cases x with
  | non=>cases rx;exact SeqAt.EqAt.bool_none a
  | bl b=>cases rx;exact SeqAt.EqAt.bool_bool a b
  | int b=>obtain⟨t,rfl⟩:=rx;exact SeqAt.EqAt.bool_int a b t
  | str b=>obtain⟨t,rfl⟩:=rx;exact SeqAt.EqAt.bool_str a b t
  | _=>exact absurd (show false=true from fx) Rw
 | int a=>
  obtain⟨t',rfl⟩:=ry
  cases x with
  | non=>cases rx;exact SeqAt.EqAt.int_none a t'
  | bl b=>cases rx;exact SeqAt.EqAt.int_bool a t' b
  | int b=>obtain⟨t,rfl⟩:=rx;exact SeqAt.EqAt.int_int a t' b t
  | str b=>obtain⟨t,rfl⟩:=rx;exact SeqAt.EqAt.int_str a t' b t
  | _=>exact absurd (show false=true from fx) Rw
 | str a=>
  obtain⟨t',rfl⟩:=ry
  cases x with
  | non=>cases rx;exact SeqAt.EqAt.str_none a t'
  | bl b=>cases rx;exact SeqAt.EqAt.str_bool a t' b
  | int b=>obtain⟨t,rfl⟩:=rx;exact SeqAt.EqAt.str_int a t' b t
  | str b=>obtain⟨t,rfl⟩:=rx;exact SeqAt.EqAt.str_str a t' b t
  | _=>exact absurd (show false=true from fx) Rw
 | _=>exact absurd (show false=true from fy) Rw
def eqU(x:V)(u:Value):Bool:=match u with
 | .none=>eqV .non x
 | .bool b=>eqV (.bl b) x
 | .int i _=>eqV (.int i) x
 | .str z _=>eqV (.str z) x
 | _=>false
def Fv{x y:V}{u:Value}(r:bD y u)(f:iA y=true):eqU x u=eqV y x:=by
 cases y with
 | non=>cases r;rfl
 | bl b=>cases r;rfl
 | int i=>obtain⟨t,rfl⟩:=r;rfl
 | str z=>obtain⟨t,rfl⟩:=r;rfl
 | _=>exact absurd (show false=true from f) Rw
def kr{x:V}:∀ {xs:List V}{us:List Value},aU xs us->xs.all iA=true->us.any (eqU x)=xs.any λ y=>eqV y x
 | _,_,.nil,_=>rfl
 | y::xs,u::us,.cons r t,f=>by
  rw [all_cons,SF] at f;rw [VL,VL,Fv r f.1,kr t f.2]
def iF{A:Around}{s:Shared}{x:V}{v:Value}(rx:bD x v)(fx:iA x=true):∀ {xs:List V}{us:List Value},aU xs us->xs.all iA=true->∀ u∈us,SeqAt.EqAt A s u v (eqU x u)
 | _,_,.nil,_=>λ u hu=>by cases hu
 | y::xs,u::us,.cons r t,f=>λ u' hu=>by
  rw [all_cons,SF] at f
  rcases Rz.mp hu with rfl|hu
  ·rw [Fv r f.1];exact M5 r rx f.1 fx
  ·exact iF rx fx t f.2 u' hu
def inV(x:V)(xs:List V):Bool:=xs.any λ y=>eqV y x
def rIn(K:W.Frag)(neg:Bool):R2:=λ x y H Q=>∃ p xs,y=.ref p/\(SqL K H p xs\/SqT K H p xs)/\iA x=true/\xs.all iA=true/\Q (.bl (if neg then !inV x xs else inV x xs)) H
def Aa:OpR X (compareOp .In) (rIn X.K false):=by
 intro pins s σ H x y v u Q I rx ry h;obtain⟨p,xs,rfl,hq,fx,fs,q⟩:=h;cases ry
 rcases hq with hq|hq
 ·obtain⟨its,r,pl,hz⟩:=I.list hq;refine SeqAt.in_listAt (eqU x) pl.isList (λ w hw=>iF rx fx r fs w (by simpa using hw)) ⟨.bl _,H,I,rfl,?_⟩;rw [show its.toArray.any (eqU x)=its.any (eqU x) by simp,kr r fs];exact q
 ·obtain⟨its,r,pl,hz⟩:=I.tuple hq;refine SeqAt.in_tupleAt (eqU x) pl (λ w hw=>iF rx fx r fs w (by simpa using hw)) ⟨.bl _,H,I,rfl,?_⟩;rw [show its.toArray.any (eqU x)=its.any (eqU x) by simp,kr r fs];exact q
def rg:OpR X (compareOp .NotIn) (rIn X.K true):=by
 intro pins s σ H x y v u Q I rx ry h;obtain⟨p,xs,rfl,hq,fx,fs,q⟩:=h;cases ry
 rcases hq with hq|hq
 ·obtain⟨its,r,pl,hz⟩:=I.list hq;refine SeqAt.notIn_listAt (eqU x) pl.isList (λ w hw=>iF rx fx r fs w (by simpa using hw)) ⟨.bl _,H,I,rfl,?_⟩;rw [show its.toArray.any (eqU x)=its.any (eqU x) by simp,kr r fs];exact q
 ·obtain⟨its,r,pl,hz⟩:=I.tuple hq;refine SeqAt.notIn_tupleAt (eqU x) pl (λ w hw=>iF rx fx r fs w (by simpa using hw)) ⟨.bl _,H,I,rfl,?_⟩;rw [show its.toArray.any (eqU x)=its.any (eqU x) by simp,kr r fs];exact q
def ek:cu X (.builtin "len") (λ xs H Q=>∃ p ys,xs=[.ref p]/\(SqL X.K H p ys\/SqT X.K H p ys)/\Q (.int ys.length) H):=by
 intro pins s σ H xs us Q I r h;obtain⟨p,ys,rfl,hq,q⟩:=h;obtain⟨u,rfl,rx⟩:=xl r;cases rx;have hn:=mC
 rcases hq with hq|hq
 ·obtain⟨its,r',pl,hz⟩:=I.list hq;have hlen:=r'.length;exact Calls.call_len_list pl.isList (by simp only [RJ]<;>omega) ⟨.int ys.length,H,I.tok _,⟨s.toks+1,by rw [RJ,hlen]⟩,q⟩
 ·obtain⟨its,r',pl,hz⟩:=I.tuple hq;have hlen:=r'.length;exact len_tuple pl (by simp only [RJ]<;>omega) ⟨.int ys.length,H,I.tok _,⟨s.toks+1,by rw [RJ,hlen]⟩,q⟩
def rF:cu X (.builtin "len") (λ xs H Q=>∃ z,xs=[.str z]/\z.length<=sizeLine/\Q (.int z.length) H):=by
 intro pins s σ H xs us Q I r h;obtain⟨z,rfl,hz,q⟩:=h;obtain⟨u,rfl,t,rfl⟩:=xl r;have hn:=mC;exact len_str (by omega) ⟨.int z.length,H,I.tok _,⟨_,rfl⟩,q⟩
def cu.or{f:Value}{r r':List V->Hp->VK->Prop}(h:cu X f r)(h':cu X f r'):cu X f (λ xs H Q=>r xs H Q\/r' xs H Q):=by
 intro pins s σ H xs us Q I rs q
 rcases q with q|q
 ·exact h pins s σ H xs us Q I rs q
 ·exact h' pins s σ H xs us Q I rs q
def rE:cu X (.type "list") (λ xs H Q=>∃ p ys,xs=[.ref p]/\(SqL X.K H p ys\/SqT X.K H p ys)/\∀ l,H l=none->Q (.ref l) (upd H l (.lst ys))):=by
 intro pins s σ H xs us Q I r h;obtain⟨p,ys,rfl,hq,q⟩:=h;obtain⟨u,rfl,rx⟩:=xl r;cases rx
 have fin:∀ (its:List Value),aU ys its->ys.length<=sizeLine->∀ (h':Heap) (c':Nat),(∀ b o',s.heap.get? b=some o'->h'.get? b=some o') →
   h'.get? s.heap.objs.size=some { cls:=.type "list",dict:=none,data:=.seq its.toArray c',slots:=#[] }->EP X pins σ Q (.ref s.heap.objs.size) { s with heap:=h' }:=λ its r' hz h' c' kp e=>
  ⟨.ref s.heap.objs.size,_,I.laid (t':=s.toks) kp (Rl _) (show bW X.prog X.w _ h' _ (.lst ys) from ⟨hz,its,c',r',e⟩),rfl,q _ (I.hok.fresh (Rl _))⟩
 rcases hq with hq|hq
 ·obtain⟨its,r',pl,hz⟩:=I.list hq;have hlen:=r'.length;obtain⟨o,ho,hc,n,hd⟩:=pl.isList;exact call_list_seq p (.inl rfl) ho hc hd (λ h' c' kp e=>fin its r' hz h' c' kp e) (by simp only [RJ]<;>omega)
 ·obtain⟨its,r',pl,hz⟩:=I.tuple hq;have hlen:=r'.length;obtain⟨o,ho,hc,n,hd⟩:=pl;exact call_list_seq p (.inr rfl) ho hc hd (λ h' c' kp e=>fin its r' hz h' c' kp e) (by simp only [RJ]<;>omega)
def pq:cu X (.type "tuple") (λ xs H Q=>∃ p ys,xs=[.ref p]/\((SqL X.K H p ys/\∀ l,H l=none->Q (.ref l) (upd H l (.tup ys)))\/(SqT X.K H p ys/\Q (.ref p) H))):=by
 intro pins s σ H xs us Q I r h;obtain⟨p,ys,rfl,h⟩:=h;obtain⟨u,rfl,rx⟩:=xl r;cases rx
 rcases h with ⟨hq,q⟩|⟨hq,q⟩
 ·obtain⟨its,r',pl,hz⟩:=I.list hq;have hlen:=r'.length;refine call_tuple_list pl.isList (λ h' kp=>?_) (by simp only [RJ]<;>omega);have I1:Inv X pins σ H { s with heap:=h' }:=I.kept (t':=s.toks) kp
  have I2:Inv X pins σ (upd H h'.objs.size (.tup ys)) { s with heap:=h'.push { cls:=.type "tuple",data:=.seq its.toArray } }:=
   I1.laid (t':=s.toks) (λ b o e=>Rc _ e) (Rl _) (show bW X.prog X.w _ _ _ (.tup ys) from ⟨hz,its,r',IsTup.new _ _⟩)
  exact⟨.ref h'.objs.size,_,I2,rfl,q _ (I1.hok.fresh (Rl _))⟩
 ·obtain⟨its,r',pl,hz⟩:=I.tuple hq;exact call_tuple_same pl ⟨.ref p,H,I,rfl,q⟩
def tyV(K:W.Frag)(T:String)(x:V)(H:Hp):Prop:=match x with
 | .str _=>T = "str"
 | .int _=>T = "int"
 | .ref p=>(T = "list" /\ ∃ xs,SqL K H p xs)\/(T = "tuple" /\ ∃ o,K.lookup p=some o/\o.cls=.type "tuple" /\ o.dict=none) \/
   (T = "dict" /\ ((∃ kvs,H p=some (.dK kvs))\/∃ kvs,H p=some (.dT kvs)))\/(T = "set" /\ ∃ S n,H p=some (.set S n))
 | _=>False
def E7{pins:List (Addr × Obj)}{σ:St}{H:Hp}{s:Shared}{T:String}{x:V}{v:Value}(I:Inv X pins σ H s)(r:bD x v)(ty:tyV X.K T x H) :
  s.TypeIs v T/\∀ a,v=.ref a->∃ ob,s.heap.get? a=some ob/\ob.dict=none:=by
 cases x with
 | str z=>
  obtain⟨t,rfl⟩:=r;cases (show T = "str" from ty);exact⟨typeIs_str s z t,λ _ e=>nomatch e⟩
 | int i=>
  obtain⟨t,rfl⟩:=r;cases (show T = "int" from ty);exact⟨typeIs_int s i t,λ _ e=>nomatch e⟩
 | ref p=>
  cases r
  rcases ty with ⟨rfl,xs,hq⟩|⟨rfl,o,hk,hc,hd⟩|⟨rfl,hk⟩|⟨rfl,S,n,hk⟩
  ·obtain⟨its,_,pl,_⟩:=I.list hq;refine⟨pl.isList.typeIs,λ a e=>?_⟩;cases e;obtain⟨o,n,e,c,hd,_⟩:=pl;exact⟨o,e,hd⟩
  ·refine⟨⟨o,I.kIn p o hk,hc⟩,λ a e=>?_⟩;cases e;exact⟨o,I.kIn _ o hk,hd⟩
  ·have z:∃ o,s.heap.get? p=some o/\o.ExactDict:=by
    rcases hk with ⟨kvs,hk⟩|⟨kvs,hk⟩
    ·obtain⟨_,_,_,_,o,_,_,e,ex,_⟩:=I.hok p _ hk;exact⟨o,e,ex⟩
    ·obtain⟨_,_,_,_,o,_,_,e,ex,_⟩:=I.hok p _ hk;exact⟨o,e,ex⟩
   obtain⟨o,e,ex⟩:=z;refine⟨⟨o,e,ex.1⟩,λ a e2=>?_⟩;cases e2;exact⟨o,e,ex.2.1⟩
  ·obtain⟨o,_,_,_,e,ex,_⟩:=I.hok p _ hk;refine⟨⟨o,e,ex.1⟩,λ a e2=>?_⟩;cases e2;exact⟨o,e,ex.2.1⟩
 | _=>exact False.elim ty
def PV(K:W.Frag)(T:String)(r:V->List V->Hp->VK->Prop)(to:TE):TE:=λ σ H Q=>to σ H λ x H1=>tyV K T x H1/\r x [] H1 Q
def tBM(K:W.Frag)(T:String)(r:V->List V->Hp->VK->Prop)(to:TE)(t:TA):TE:=λ σ H Q=>to σ H λ x H1=>tyV K T x H1/\t σ H1 λ xs H2=>r x xs H2 Q
variable {o e:Expr}{es:List Expr}{to:TE}{t:TA}{name:Str}{apos cpos:Pos}{T id:String}{r:V->List V->Hp->VK->Prop}
def x8(pa:PlainAttrs T)(slot:Slot T name id)(a3:typeOf (.builtin id)=pure (.type "method_descriptor"))(hm:MtR X id r)(ho:PE X o to)
  (aS:attributeBase o name X.env (eval o X.env)=eval o X.env:=by rfl) (aX:(apos.endLine == cpos.line)=true:=by rfl):PE X (.Call (.Attribute o name apos) [] [] cpos) (PV X.K T r to):=by
 intro pins s σ H Q I h;refine wpAny_Call_method0_late aS aX (thn (ho pins s σ H _ I h) λ v s1 ⟨x,H1,I1,r1,ty,q1⟩=>?_);obtain⟨h1,h2⟩:=E7 I1 r1 ty;exact⟨T,id,pa,slot,a3,h1,h2,Ul rfl (PySem.evalArgs_none (hm pins s1 σ H1 x [] v [] Q I1 r1 .nil q1))⟩
def OE(pa:PlainAttrs T)(slot:Slot T name id)(a5:typeOf (.builtin id)=pure (.type "method_descriptor"))(hm:MtR X id r)(ho:PE X o to)(ha:PA X (e::es) t)
  (aX:attributeBase o name X.env (eval o X.env)=eval o X.env:=by rfl)
  (a4:((backTo cpos (starEach (e::es) X.env)).all (λ x=>!x.1) && (backToKw cpos (keywordEach [] X.env)).all (λ x=>x.1.isSome)
   && decide ((e::es).length+([]:List Keyword).length+(if ([]:List Keyword).isEmpty then 0 else 1) < 30))=true:=by rfl)
  (a3:(apos.endLine == cpos.line)=true:=by rfl) (hs:starEach (e::es) X.env=(false,eval e X.env)::starEach es X.env:=by rfl) (aS:(backTo cpos (starEach es X.env)).any (·.1)=false:=by rfl) :
  PE X (.Call (.Attribute o name apos) (e::es) [] cpos) (tBM X.K T r to t):=by
 intro pins s σ H Q I h;refine wpAny_Call_method_late aX a4 a3 rfl (thn (ho pins s σ H _ I h) λ v s1 ⟨x,H1,I1,r1,ty,q1⟩=>?_);obtain⟨h1,h2⟩:=E7 I1 r1 ty;refine⟨T,id,pa,slot,a5,h1,h2,?_⟩;have hA:=ha cpos pins s1 σ H1 _ I1 q1;rw [hs] at hA ⊢;refine Ul (by show (false || (backTo cpos (starEach es X.env)).any (·.1))=false;rw [aS]<;>rfl) (Vu ?_);exact thn hA λ us s2 ⟨vs,H2,I2,r2,q2⟩=>hm pins s2 σ H2 x vs v us Q I2 r1 r2 q2
end
def MtM(X:Cx)(id:String)(r:V->List V->Hp->VK->Prop):Prop:=
 ∀ (pins:List (Addr × Obj)) (s:Shared) (σ:St) (H:Hp) (x:V) (xs:List V) (v:Value) (us:List Value) (Q:VK),Inv X pins σ H s->bD x v->aU xs us->r x xs H Q →
  wpAny (model X.prog X.w) X.A (call (.builtin id) (v::us)) (EP X pins σ Q) X.xe s
def aU.one:∀ {x:V}{us:List Value},aU [x] us->∃ u,us=[u]/\bD x u
 | _,_,.cons r .nil=>⟨_,rfl,r⟩
def aU.zero:∀ {us:List Value},aU [] us->us=[]
 | _,.nil=>rfl
def aU.reverse{xs:List V}{us:List Value}(h:aU xs us):aU xs.reverse us.reverse:=by
 induction h with
 | nil=>exact .nil
 | cons r t ih=>rw [List.reverse_cons,List.reverse_cons];exact aU.append ih (.cons r .nil)
def aU.rep{xs:List V}{us:List Value}(h:aU xs us):∀ k:Nat,aU (List.replicate k xs).flatten (List.replicate k us).flatten
 | 0=>.nil
 | k+1=>by
  rw [Tf,Tf,T8,T8];exact aU.append h (aU.rep h k)
def qv(its:List Value):∀ (k:Nat) (acc:List Value),
  List.foldl (λ x1 x2=>x1++x2) acc.toArray (List.replicate k its.toArray)=(acc++(List.replicate k its).flatten).toArray
 | 0,acc=>by simp
 | k+1,acc=>by
  have e:acc.toArray++its.toArray=(acc++its).toArray:=by simp
  have e2:(acc++its)++(List.replicate k its).flatten=acc++(List.replicate (k+1) its).flatten:=by
   rw [Tf,T8,Vs]
  rw [←e2,←qv its k (acc++its),←e,Tf,Tj]
section
variable {X:Cx}{pins:List (Addr × Obj)}{σ:St}{H:Hp}{s:Shared}{l b:Addr}{xs ys zs:List V}
def Inv.lset{its its':List Value}{n:Nat}{f:Array Value->Array Value}{t':Nat}(I:Inv X pins σ H s)(hH:H l=some (.lst xs))
  (e:s.heap.get? l=some { cls:=.type "list",data:=.seq its.toArray n }) (hf:f its.toArray=its'.toArray) (hv:aU ys its') (hz:ys.length<=sizeLine) :
  Inv X pins σ (upd H l (.lst ys)) { s with heap:=s.heap.update l (Obj.mapSeq f),toks:=t' }:=by
 have q:=PySem.IsL.update e f;rw [hf] at q;refine I.write (x:=l) (e:=l) (by rw [hH];exact trivial) (.inl rfl) (λ b' u hb hu=>(RK s.heap (Obj.mapSeq f) (Ru hb)).trans hu) ⟨_,q⟩ ?_;exact⟨hz,its',_,hv,q⟩
def Inv.lnew{its:List Value}{t':Nat}(I:Inv X pins σ H s)(hv:aU ys its)(hz:ys.length<=sizeLine) :
  Inv X pins σ (upd H s.heap.objs.size (.lst ys)) { s with heap:=s.heap.push { cls:=.type "list",data:=.seq its.toArray },toks:=t' }:=
 I.laid (λ _ _ q=>Rc _ q) (Rl _) ⟨hz,its,0,hv,Rn _ rfl⟩
def Inv.fresh(I:Inv X pins σ H s):H s.heap.objs.size=none:=I.hok.fresh (Rl _)
def Inv.lstM(I:Inv X pins σ H s)(hH:H l=some (.lst xs)):xs.length<=sizeLine/\∃ (its:List Value) (n:Nat),aU xs its/\xs.length=its.length/\s.heap.get? l=some { cls:=.type "list",data:=.seq its.toArray n }:=by
 obtain⟨z,its,n,r,e⟩:=I.hok l _ hH;exact⟨z,its,n,r,r.length,e⟩
def uO{n:Nat}(h:n<=sizeLine):Builtin.List.listTooLong n=false:=by
 unfold Builtin.List.listTooLong;exact decide_eq_false (by omega)
end
section
variable {X:Cx}
def yt:V->List V->Hp->VK->Prop:=λ x vs H Q=>∃ l xs y,x=.ref l/\vs=[y]/\H l=some (.lst xs)/\xs.length < sizeLine/\Q .non (upd H l (.lst (xs++[y])))
def dD:MtM X "list.append" yt:=by
 intro pins s σ H x vs v us Q I rx rv h;obtain⟨l,xs,y,rfl,rfl,hH,hz,q⟩:=h;cases rx;obtain⟨u,rfl,ru⟩:=rv.one;obtain⟨z,its,n,r,hl,e⟩:=I.lstM hH;refine call_meets F.slot_list_append ⟨_,e,rfl⟩ F.entry_list_append (F.args_list_append_2 _ _) (PySem.list_append l its.toArray n u (by rw [RJ];omega)) ⟨e,?_⟩;refine⟨.non,_,I.lset (its':=its++[u]) hH e (by simp) (r.append (.cons ru .nil)) ?_,rfl,q⟩;rw [RI,Ug];omega
def yr:V->List V->Hp->VK->Prop:=λ x vs H Q=>∃ l b xs zs,x=.ref l/\vs=[.ref b]/\H l=some (.lst xs)/\H b=some (.lst zs)/\xs.length+zs.length<=sizeLine/\Q .non (upd H l (.lst (xs++zs)))
def iK:MtM X "list.extend" yr:=by
 intro pins s σ H x vs v us Q I rx rv h;obtain⟨l,b,xs,zs,rfl,rfl,hH,hB,hz,q⟩:=h;cases rx;obtain⟨u,rfl,ru⟩:=rv.one;cases ru;obtain⟨z,its,n,r,hl,e⟩:=I.lstM hH;obtain⟨z2,aS,n2,r2,a3,e2⟩:=I.lstM hB;have hsz:its.toArray.size+aS.toArray.size<=sizeLine:=by rw [RJ,RJ];omega
 have aX:¬ (!its.toArray.isEmpty && Builtin.List.listTooLong (its.toArray.size+aS.toArray.size))=true:=by
  rw [uO hsz,Bool.and_false];exact Rw
 refine call_meets F.slot_list_extend ⟨_,e,rfl⟩ F.entry_list_extend (F.args_list_extend_2 _ _)
  (AutoSeq1.list_extend_list_list_0 l its.toArray n b aS.toArray n2 aX (by rw [RJ];omega) (by omega)) ⟨e,e2,?_⟩
 refine⟨.non,_,I.lset (its':=its++aS) hH e (by simp) (r.append r2) ?_,rfl,q⟩;rw [RI];omega
def uK:V->List V->Hp->VK->Prop:=λ x vs H Q=>∃ l xs,x=.ref l/\vs=[]/\H l=some (.lst xs)/\Q .non (upd H l (.lst xs.reverse))
def jn:MtM X "list.reverse" uK:=by
 intro pins s σ H x vs v us Q I rx rv h;obtain⟨l,xs,rfl,rfl,hH,q⟩:=h;cases rx;have aS:=rv.zero;subst aS;obtain⟨z,its,n,r,hl,e⟩:=I.lstM hH;refine call_meets F.slot_list_reverse ⟨_,e,rfl⟩ F.entry_list_reverse (F.args_list_reverse_1 _) (AutoSeq1.list_reverse_list_0 l its.toArray n (by rw [RJ];omega)) ⟨e,?_⟩;refine⟨.non,_,I.lset (its':=its.reverse) hH e (by simp) r.reverse ?_,rfl,q⟩;rw [Vc];omega
def P2:R2:=λ x y H Q=>∃ l b xs zs,x=.ref l/\y=.ref b/\H l=some (.lst xs)/\H b=some (.lst zs)/\xs.length+zs.length<=sizeLine/\∀ p,H p=none->Q (.ref p) (upd H p (.lst (xs++zs)))
def Lp:OpR X (binaryOp .Add) P2:=by
 intro pins s σ H x y v u Q I rx ry h;obtain⟨l,b,xs,zs,rfl,rfl,hH,hB,hz,q⟩:=h;cases rx;cases ry;obtain⟨z,its,n,r,hl,e⟩:=I.lstM hH;obtain⟨z2,aS,n2,r2,aX,e2⟩:=I.lstM hB;refine PySem.P.add_list e e2 ?_ (by rw [RJ,RJ];omega);have ea:its.toArray++aS.toArray=(its++aS).toArray:=by simp
 rw [ea];exact⟨.ref _,_,I.lnew (t':=s.toks) (r.append r2) (by rw [RI];omega),rfl,q _ I.fresh⟩
def QL:R2:=λ x y H Q=>∃ l k xs,x=.ref l/\y=.int k/\H l=some (.lst xs)/\-(2 ^ 63)<=k/\k < 2 ^ 63/\xs.length * k.toNat<=sizeLine /\
 ∀ p,H p=none->Q (.ref p) (upd H p (.lst (List.replicate k.toNat xs).flatten))
def IX{α:Type}(xs:List α)(k:Nat):(List.replicate k xs).flatten.length=k * xs.length:=by
 induction k with
 | zero=>simp
 | succ k ih=>rw [Tf,T8,RI,ih,Nat.succ_mul,Nat.add_comm]
def Li:OpR X (binaryOp .Mult) QL:=by
 intro pins s σ H x y v u Q I rx ry h;obtain⟨l,k,xs,rfl,rfl,hH,h1,h2,hz,q⟩:=h;cases rx;obtain⟨t,rfl⟩:=ry;obtain⟨z,its,n,r,hl,e⟩:=I.lstM hH;have hlen:its.toArray.size * k.toNat<=sizeLine:=by rw [RJ,←hl];exact hz
 have aX:¬ its.toArray.size * k.toNat > (2 ^ 63 - 1) / 8:=by
  have:(sizeLine:Nat)<=(2 ^ 63 - 1) / 8:=by decide
  omega
 have a3:¬ (!Builtin.List.listFitsIndex k)=true:=by
  rw [fitsIndex_both h1 h2];exact Rw
 have aS:¬ Builtin.List.listTooLong (its.toArray.size * k.toNat)=true:=by
  rw [uO hlen];exact Rw
 have a4:List.foldl (λ x1 x2=>x1++x2) #[] (List.replicate (if its.toArray.isEmpty=true then 0 else k.toNat) its.toArray)=(List.replicate k.toNat its).flatten.toArray:=by
  have f0:∀ m:Nat,List.foldl (λ x1 x2=>x1++x2) #[] (List.replicate m its.toArray)=(List.replicate m its).flatten.toArray:=λ m=>by
   have:=qv its m [];rw [VP] at this;exact this
  rw [f0]
  cases its with
  | nil=>simp
  | cons a r'=>rw [RH (by simp)]
 refine wpAny_binaryOp_repeat_ref (T := "list") (U := "int") (by decide) ⟨_,e,rfl⟩ (λ s'=>typeIs_int s' k t) noFill_list_mul F.fills_int_mul F.slot_int_rmul repeat_list F.slot_int_index.lookup
  (call_meets F.slot_int_rmul (typeIs_int s k t) F.entry_int_rmul (F.args_int_rmul_2 _ _) (int___rmul___int_list k t l its.toArray n)
   ⟨e,rfl,⟨_,e,rfl⟩,call_meets F.slot_list_mul ⟨_,e,rfl⟩ F.entry_list_mul (F.args_list_mul_2 _ _) (AutoListH.list___mul___list_int_3 l its.toArray n k t a3 aX aS) ⟨e,?_⟩⟩)
 rw [a4];exact⟨.ref _,_,I.lnew (t':=s.toks) (r.rep k.toNat) (by rw [IX,Nat.mul_comm];exact hz),rfl,q _ I.fresh⟩
end
section
variable {prog:Program}{w:World}{A:Around}{E:Value->Shared->Prop}{s:Shared}
end
section
variable {X:Cx}
end
end L2
namespace Att
open PySem PySem.W PySem.Calls PyProof.Rows
def lS{P:Params}{h:Heap}:∀ (ns:List Int) (vs:List Value),WellAll P h vs (ns.map WData.int)->IntsAre vs ns:=by
 intro ns
 induction ns with
 | nil=>
  intro vs w;rw [Vg] at w;cases w;exact .nil
 | cons n ns ih=>
  intro vs w;rw [Sh] at w
  cases w with
  | cons a b=>
   cases a;exact .cons _ _ (ih _ b)
def zM{l:OpenLaw}{n:Nat}(hn:l.most=some n){P:Params}{h:Heap}{args:List WData}{vals:List Value}
  (aS:l.row.toRowW.claim.pre args=true) (aX:WellAll P h vals args) :
  ∃ a vs ns,vals=[Value.ref a]/\args=[WData.list (ns.map WData.int)]/\h.get? a=some { cls:=.type "list",data:=.seq vs.toArray }/\IntsAre vs ns/\ns.length<=n:=by
 have a3:WShape.hasAll [] args [.list .int]=true:=(pre_splitW aS).1;have hc:l.pre.holds [] { args:=args }=true:=(pre_splitW aS).2;obtain⟨d,r,rfl,h1,h2⟩:=hasAllW_cons a3;obtain rfl:=hasAllW_nil h2;obtain⟨xs,rfl,h3⟩:=hasW_list h1;obtain⟨ns,rfl⟩:=items_int h3
 have hlen:ns.length<=n:=by
  unfold OpenLaw.pre at hc
  have h4:(WTm.not (.lt (.lit (.int (n:Int))) (.len (.arg 0)))).holds [] { args:=[.list (ns.map .int)] }=true:=by
   have h4:=(holds_andW hc).1;rw [hn] at h4;exact h4
  have h5:=condW_of h4 (w_not (w_lt w_lit (w_len_list (w_arg rfl))));rw [Rh] at h5;refine VE λ q=>?_;have q':(n:Int) < ((ns.length:Nat):Int):=by omega
  first
   | (rw [Rp q'] at h5;exact absurd h5 (by decide))
   | (simp at h5;omega)
 cases aX with
 | cons w1 w2=>
  cases w2
  cases w1 with
  | list ho hall=>exact⟨_,_,ns,rfl,rfl,ho,lS ns _ hall,hlen⟩
def zQ(l:OpenLaw)(args:List WData):l.row.toRowW.claim.post args (.bool true) args=true:=
 postW_of (r:=l.row.toRowW) (X:=(true == true))
  (show WShape.has [] (.bool true) .bool=true by first|rfl|decide|simp [WShape.has,WShape.arms,WShape.armsAll])
  (show (WTm.eq .res (.lit (.bool true))).value [] { args:=args,res:=some (.bool true),after:=args }=some (.bool (true == true)) from w_eq_bool (w_res rfl) w_lit) rfl
def attach_call{l:OpenLaw}{n:Nat}{q:Program}{loose:List Str}{XP:(Str->Option Value)->Heap->Prop}{YP:World->Heap->Prop}{d:DefRec}
  (hn:l.most=some n) (a3:d.params.defaults=[])
  (call:∀ (w:World) (s₀ s₁:Shared) (mg mb:Str->Option Value) (fa:Addr) (o:Obj) (pm cd doc:Value) (a:Addr) (vs:List Value) (ns:List Int),
   Ground q loose [] XP w s₀ mg mb s₁.heap->YP w s₁.heap →
   s₁.heap.get? fa=some o->o.data=.func (docDef d.name d.params d.body d.scope pm cd doc)->s₁.heap.CodeRec cd d.name->mg d.name=some (.ref fa) →
   s₁.heap.get? a=some { cls:=.type "list",data:=.seq vs.toArray }->IntsAre vs ns->ns.length<=n->s₁.gens=#[] →
   codeAny (model l.prog w) callerA (.call (.ref fa) ⟨[.ref a],[]⟩) (λ r s'=>r=.ok (.ret (.bool true))/\OldK s₁.heap s'.heap/\s'.os=s₁.os/\AllBare s'.gens) s₁) :
  WalkO q loose XP YP l.row.toRowW d [] (λ f vs=>PySem.call f vs):=by
 intro w s₀ s₁ mg mb G Y fa o pm cd doc dV kV ho hd a4 hD a5 hg args vals as aS a7 a8 a6 a9;obtain rfl:dV=.none:=Dflts.none hD a3;obtain rfl:kV=.none:=Dflts.noKw hD;obtain⟨a,vs,ns,rfl,rfl,aX,hints,hlen⟩:=zM hn aS a6;refine enter_call (UM (call w s₀ s₁ mg mb fa o pm cd doc a vs ns G Y ho (fd_plain hd) a4 a5 aX hints hlen hg) λ r s' hq=>?_);obtain⟨rfl,h2,h3,h4⟩:=hq;exact⟨.inl ⟨.bool true,.bool true,[],rfl,λ _=>rfl,.bool true,zQ l _,λ _=>⟨List.Pairwise.nil,λ _ hm=>(nomatch hm)⟩⟩,h2,h3,h4⟩
section
variable {prog:Program}{w:World}{A:Around}{E:Value->Shared->Prop}{s:Shared}{K:Frag}
def QF(h:Heap)(L d:Addr):List (Addr × Obj):=(List.range h.objs.size).filterMap λ a=>if a=L\/a=d then none else (h.get? a).map λ o=>(a,o)
end
end Att
namespace L2
open PySem PySem.Spec PyProof.Rows
def pY:∀ {vs:List Value}{ns:List Int},IntsAre vs ns->aU (ns.map V.int) vs
 | _,_,.nil=>.nil
 | _,_,.cons n t h=>.cons ⟨t,rfl⟩ (pY h)
def Ox(H:Hp):Prop:=∀ b,H b=none\/∃ o xs,H b=some (.frz o (.lst xs))
def DH{P:Program}{w:World}{K:W.Frag}{mg mb:Str->Option Value}{CX:CXT}{k:Nat}{fa a:Addr}{fd:FuncData}{x:Str}{sp:Sp}{s₁:Shared}{vs:List Value}{ns:List Int}
  (KX:K.In s₁.heap) (a4:s₁.heap.Ns mainGlobals mg) (hb:s₁.heap.Ns builtinsNs mb) (a9:∀ x:Str,x ≠ "__name__" → mb x=bootBuiltins x) (a5:s₁.heap.NoLimit) (hg:s₁.gens=#[])
  (ha:s₁.heap.get? a=some { cls:=.type "list",data:=.seq vs.toArray }) (hi:IntsAre vs ns) (hl:ns.length<=sizeLine) (hr:jE k callerA)
  (F:∀ base:Heap,K.In base->base.Ns mainGlobals mg->bh P w K mg base CX k fa fd [x] sp) (a3:∀ (s:Shared) (u:Value),BindsTo s fd ⟨[u],[]⟩ [(x,u)])
  (bb:∀ H:Hp,Ox H->SqL K H a (ns.map V.int)->sp [.ref a] H (λ v _=>v=.bl true) λ _ _ _=>False)
  (bt:∀ H e s',CX [] H s₁ (λ _ _ _=>False) e s'->False) :
  codeAny (model P w) callerA (.call (.ref fa) ⟨[.ref a],[]⟩) (λ r s'=>r=.ok (.ret (.bool true))/\OldK s₁.heap s'.heap/\s'.os=s₁.os/\AllBare s'.gens) s₁:=by
 have rv:=pY hi;have a6:=hi.length
 have core:∀ H:Hp,Ox H->SqL K H a (ns.map V.int)->HOk P w H s₁.heap->(∀ b,H b ≠ none->b=a)->(H a ≠ none->K.lookup a=none) →
   codeAny (model P w) callerA (.call (.ref fa) ⟨[.ref a],[]⟩) (λ r s'=>r=.ok (.ret (.bool true))/\OldK s₁.heap s'.heap/\s'.os=s₁.os/\AllBare s'.gens) s₁:=by
  intro H hO hS hok hA hK;have aS:∀ {b:Addr} {o:Obj},s₁.heap.get? b=some o->H b=none->(BU s₁.heap H).get? b=some o:=λ e n=>El e n
  have bx:∀ {b:Addr} {o:Obj} {es:Array DictEntry} {ep:Nat},s₁.heap.get? b=some o->o.data=.dict es ep->H b=none:=λ {b o es ep} e d=>by
   cases q:H b with
   | none=>rfl
   | some u=>
    have e':b=a:=hA b (by rw [q];simp);subst e';rw [ha] at e;cases e;have d':Data.seq vs.toArray _=Data.dict es ep:=d;cases d'
  have aX:∀ {b:Addr} {m:Str->Option Value},s₁.heap.Ns b m->(BU s₁.heap H).Ns b m:=λ {b m} ⟨o,es,ep,e,d,r⟩=>⟨o,es,ep,aS e (bx e d),d,r⟩
  have a7:K.In (BU s₁.heap H):=λ b o e=>aS (KX b o e) (by
   cases q:H b with
   | none=>rfl
   | some u=>
    have e':b=a:=hA b (by rw [q];simp);subst e';rw [hK (by rw [q];simp)] at e;cases e)
  have hM:Mod K mg (BU s₁.heap H):=⟨a7,aX a4,⟨mb,aX hb,a9⟩,let ⟨mc,h1,h2⟩:=a5;⟨mc,aX h1,h2⟩⟩;have e0:E2 P w K mg (BU s₁.heap H) callerA [] s₁ H:=⟨rfl,hM,λ b o e=>HB e,Nat.le_of_eq (Bo _ _),trivial,λ b hb=>absurd (show b∈([]:List Addr) from hb) (by simp),hok,.of_eq hg⟩;refine UM ((F _ a7 (aX a4)).run callerA [] s₁ H ⟨[.ref a],[]⟩ [.ref a] [.ref a] _ _ hr e0 (a3 s₁ (.ref a)) (.cons rfl .nil) (bb H hO hS)) λ r s' h=>?_
  cases r with
  | error e=>exact(bt H e s' h).elim
  | ok fl=>
   cases fl with
   | next=>exact False.elim h
   | brk=>exact False.elim h
   | cont=>exact False.elim h
   | ret u=>
    obtain⟨v,H',os,bare,un,a8,r',q⟩:=h;have q':v=.bl true:=q;subst q';obtain rfl:u=Value.bool true:=r';refine⟨rfl,OldK.of_keep λ b o e=>?_,os,bare⟩
    cases q:H b with
    | none=>exact un.keep b o e q (by intro z;exact absurd (show b∈([]:List Addr) from z) (by simp)) (by simp)
    | some u=>
     rcases hO b with z|⟨ob,xs,z⟩
     ·rw [q] at z;cases z
     ·have z2:=un.frzs b ob _ z;obtain⟨e1,_⟩:=hok b _ z;obtain⟨e2,_⟩:=a8 b _ z2;rw [e] at e1;cases e1;exact e2
 cases hk:K.lookup a with
 | some o=>
  have e:=KX a o hk;rw [ha] at e;cases e;refine core (λ _=>none) (λ _=>.inl rfl) (.inr ⟨_,vs.toArray,_,hk,rfl,rfl,rfl,by rw [RJ,a6];exact hl,by simpa using rv⟩) (λ b u z=>by have z':(none:Option HO)=some u:=z;cases z') (λ b z=>absurd rfl z) λ z=>absurd rfl z
 | none=>
  refine core (λ b=>if b=a then some (.frz { cls:=.type "list",data:=.seq vs.toArray } (.lst (ns.map V.int))) else none) (λ b=>?_) (.inl (.inr ⟨{ cls:=.type "list",data:=.seq vs.toArray },RP rfl⟩)) (λ b u z=>?_) (λ b z=>?_) λ _=>hk
  ·by_cases hb:b=a
   ·exact .inr ⟨_,_,RP hb⟩
   ·exact .inl (RH hb)
  ·by_cases hb:b=a
   ·have z':=(RP hb).symm.trans z;cases z';subst hb;exact⟨ha,by rw [Rh];exact hl,vs,_,rv,ha⟩
   ·have z':=(RH hb).symm.trans z;cases z'
  ·by_cases hb:b=a
   ·exact hb
   ·exact absurd (RH hb) z
abbrev KOf{K:PySem.W.Frag}{h:Heap}(_:K.In h):PySem.W.Frag:=K
def walk_of{l:W.OpenLaw}{n k:Nat}{q:Program}{loose:List Str}{XP:(Str->Option Value)->Heap->Prop}{YP:World->Heap->Prop}{d:DefRec}{K:Params->W.Frag}{CX:World->CXT}{sp:World->Sp}{x:Str}
  (hn:l.most=some n) (aX:n<=sizeLine) (a3:d.params.defaults=[]) (hr:jE k callerA)
  (hY:∀ (w:World) (h:Heap),YP w h->(K w.params).In h)
  (F:∀ (w:World) (mg:Str->Option Value) (fa:Addr) (h:Heap),(K w.params).In h->h.Ns mainGlobals mg->mg d.name=some (.ref fa) →
   ∃ fd:FuncData,(∀ (s:Shared) (u:Value),BindsTo s fd ⟨[u],[]⟩ [(x,u)]) /\
    ∀ base:Heap,(K w.params).In base->base.Ns mainGlobals mg->bh l.prog w (K w.params) mg base (CX w) k fa fd [x] (sp w))
  (a4:∀ (w:World) (H:Hp) (a:Addr) (ns:List Int),ns.length<=n->Ox H->SqL (K w.params) H a (ns.map V.int)->sp w [.ref a] H (λ v _=>v=.bl true) λ _ _ _=>False)
  (a5:∀ (w:World) (H:Hp) (s:Shared) (e:Value) (s':Shared),CX w [] H s (λ _ _ _=>False) e s'->False) :
  W.WalkO q loose XP YP l.row.toRowW d [] (λ f vs=>PySem.call f vs):=by
 refine Att.attach_call hn a3 λ w s₀ s₁ mg mb fa o pm cd doc a vs ns G Y ho hd a7 a6 aS hints hlen hg=>?_;have KX:=hY w _ Y;obtain⟨fd,hb,hF⟩:=F w mg fa _ KX G.T.g a6;exact DH KX G.T.g G.T.b G.T.builtins G.T.nolimit hg aS hints (Sj hlen aX) hr hF hb (λ H hO hS=>a4 w H a ns hlen hO hS) λ H e s'=>a5 w H s₁ e s'
def bV(s:Stmt)(j:Nat):Stmt:=match s with
 | .ClassDef _ _ _ body _ _ _ _ _ _ _=>body.getD j (.Pass ⟨0,0,0,0⟩)
 | _=>.Pass ⟨0,0,0,0⟩
def eA(s:Stmt):Arguments:=match s with
 | .FunctionDef _ a _ _ _ _ _ _ _ _=>a
 | _=>{ posonlyargs:=[],args:=[],vararg:=none,kwonlyargs:=[],kw_defaults:=[],kwarg:=none,defaults:=[] }
def c9(s:Stmt):List Stmt:=match s with
 | .FunctionDef _ _ b _ _ _ _ _ _ _=>b
 | _=>[]
def aa(s:Stmt):Scope:=match s with
 | .FunctionDef _ _ _ _ _ _ sc _ _ _=>sc
 | _=>{ kind:=.function,names:=[],isGenerator:=false,isCoroutine:=false }
abbrev CX0:CXT:=λ _ _ _ _ _ _=>False
abbrev E0:XK:=λ _ _ _=>False
def aW{X:Cx}:kf CX0 X E0:=λ _ _ _ _ _ _ _ h=>h.elim
structure Fun(K:W.Frag)(x qual:Str)(st:Stmt)(f:Addr)(fd:FuncData):Prop where
 ex:∃ (oc:Value) (od:Option Addr) (kV doc pm:Value) (an:Option Addr) (cdv ct:Value) (osl:Array (Option Value)),
  fd=W.fnOf x qual (eA st) (c9 st) (aa st) .none kV doc pm an cdv ct/\K.lookup f=some ⟨oc,od,.func fd,osl⟩/\W.codeIn K cdv qual=true
 kp:W.keepIn K (.ref f)=true
section
variable {P:Program}{w:World}{K:PySem.W.Frag}{mg:Str->Option Value}{base:Heap}
def Fun.ok{x qual:Str}{st:Stmt}{f:Addr}{fd:FuncData}{N ps:List Str}{k:Nat}{sp:Sp}(F:Fun K x qual st f fd)(S:ag N ps (aa st))(len:∀ vs H Q E,sp vs H Q E->vs.length=ps.length)
  (aS:∀ (cdv:Value) (A:Around) (outer:List Env) (s:Shared) (H:Hp) (vs:List V) (Q:VK) (E:XK),jE k (A.deeper (envOfC qual (aa st) s.heap.objs.size f cdv))->sp vs H Q E →
   ∃ t,PSs (EZ CX0 P w K mg base N qual (aa st) f cdv A outer s H E).nox (c9 st) t/\t { nx:=λ _ H'=>Q .non H',rt:=Q } (az N vs) H):bh P w K mg base CX0 (k+1) f fd ps sp:=by
 obtain⟨oc,od,kV,doc,pm,an,cdv,ct,osl,rfl,lk,aX⟩:=F.ex;refine KI lk aX S len λ A outer s H vs Q E hr a3=>?_;obtain⟨t,h,q⟩:=aS cdv A outer s H vs Q E hr a3;exact⟨t,h.nox,q⟩
def Fun.binds{x qual:Str}{st:Stmt}{f:Addr}{fd:FuncData}{ps:List Str}(F:Fun K x qual st f fd)
  (h:∀ (kV doc pm:Value) (an:Option Addr) (cdv ct:Value) (us:List Value),us.length=ps.length->bindArgs (W.fnOf x qual (eA st) (c9 st) (aa st) .none kV doc pm an cdv ct) ⟨us,[]⟩=pure (ps.zip us)):aw K fd ps []:=by
 obtain⟨oc,od,kV,doc,pm,an,cdv,ct,osl,rfl,lk,aS⟩:=F.ex;exact .all (h kV doc pm an cdv ct)
def M4{x qual:Str}{st:Stmt}{f:Addr}{oc:Value}{od an:Option Addr}{osl:Array (Option Value)}{kV doc pm cdv ct:Value}(l:K.lookup f=some ⟨oc,od,.func (W.fnOf x qual (eA st) (c9 st) (aa st) .none kV doc pm an cdv ct),osl⟩)
  (c:W.codeIn K cdv qual=true) (k:W.keepIn K (.ref f)=true):Fun K x qual st f (W.fnOf x qual (eA st) (c9 st) (aa st) .none kV doc pm an cdv ct):=⟨⟨oc,od,kV,doc,pm,an,cdv,ct,osl,rfl,l,c⟩,k⟩
end
def qd{n:Nat}(h:n<=1000):n < sizeLine:=Nat.lt_of_le_of_lt h (by decide)
section
variable {X:Cx}
def pv(i:Nat){x:Str}{pos:Pos}(hN:X.N[i]? = some x:=by rfl)(hv:Vis X.env.scope x:=by first|exact Or.inl rfl|exact Or.inr (Or.inl rfl)|exact Or.inr (Or.inr rfl))(hd:(x == ("__debug__":Str))=false:=by decide)
  (aS:(x == ("__classdict__":Str))=false:=by decide):PE X (.Name x pos) (Nf i):=La hN hv hd aS
end
def Qt{c A B:Prop}[Decidable c](h1:c->A)(h2:¬ c->B):if c then A else B:=by
 by_cases h:c
 ·rw [RP h];exact h1 h
 ·rw [RH h];exact h2 h
def pF(H H':Hp):Prop:=∀ b o,H b=some o->H' b=some o
def pF.refl(H:Hp):pF H H:=λ _ _ h=>h
def pF.trans{H H1 H2:Hp}(a:pF H H1)(b:pF H1 H2):pF H H2:=λ c o h=>b c o (a c o h)
def pF.free{H H':Hp}(e:pF H H'){l:Addr}(h:H' l=Option.none):H l=Option.none:=by
 cases q:H l with
 | none=>rfl
 | some o=>
  rw [e l o q] at h;cases h
def pF.seq{K:W.Frag}{H H':Hp}{a:Addr}{xs:List V}(e:pF H H')(h:SqL K H a xs):SqL K H' a xs:=by
 rcases h with (h|⟨o,h⟩)|h
 ·exact .inl (.inl (e _ _ h))
 ·exact .inl (.inr ⟨o,e _ _ h⟩)
 ·exact .inr h
section
variable {κ:Type}[DecidableEq κ]
def eK(kvs:List (κ × V))(k:κ):Option V:=(kvs.find? λ kv=>decide (kv.1=k)).map (·.2)
def l0(kvs:List (κ × V))(k:κ)(v:V):List (κ × V):=
 if (kvs.any λ kv=>decide (kv.1=k))=true then kvs.map (λ kv=>if kv.1=k then (kv.1,v) else kv) else kvs++[(k,v)]
def b0{p:κ × V}{r:List (κ × V)}{k:κ}(e:p.1=k):eK (p::r) k=some p.2:=by simp [eK,TC,e]
def b6{p:κ × V}{r:List (κ × V)}{k:κ}(e:¬ p.1=k):eK (p::r) k=eK r k:=by simp [eK,TC,e]
def iC(k:κ):∀ kvs:List (κ × V),(kvs.any λ kv=>decide (kv.1=k))=(eK kvs k).isSome
 | []=>rfl
 | p::r=>by
  rw [VL]
  by_cases e:p.1=k
  ·simp only [b0 e,Rp e,Bool.true_or,Option.isSome_some]
  ·rw [b6 e,Ry e,Bool.false_or];exact iC k r
def uD(k j:κ)(y:V):∀ kvs:List (κ × V),eK (kvs.map λ kv=>if kv.1=k then (kv.1,y) else kv) j=(eK kvs j).map λ x=>if j=k then y else x
 | []=>rfl
 | p::r=>by
  have ih:=uD k j y r;rw [Sh]
  by_cases h:p.1=k
  ·rw [RP h]
   by_cases e:p.1=j
   ·rw [b0 (p:=(p.1,y)) e,b0 e,TQ,RP (e.symm.trans h)]
   ·rw [b6 (p:=(p.1,y)) e,b6 e,ih]
  ·rw [RH h]
   by_cases e:p.1=j
   ·rw [b0 (p:=p) e,b0 e,TQ,RH (λ z=>h (e.trans z))]
   ·rw [b6 (p:=p) e,b6 e,ih]
def pZ(k j:κ)(y:V):∀ kvs:List (κ × V),eK kvs k=none->eK (kvs++[(k,y)]) j=if j=k then some y else eK kvs j
 | [],_=>by
  by_cases e:k=j
  ·rw [RP e.symm];exact b0 (p:=(k,y)) e
  ·rw [RH (λ z=>e z.symm)];exact b6 (p:=(k,y)) e
 | p::r,hn=>by
  rw [U3];have hk:¬ p.1=k:=λ z=>by rw [b0 z] at hn;cases hn
  rw [b6 hk] at hn;have ih:=pZ k j y r hn
  by_cases e:p.1=j
  ·rw [b0 e,b0 e,RH (λ z=>hk (e.trans z))]
  ·rw [b6 e,b6 e,ih]
def gC(kvs:List (κ × V))(k j:κ)(y:V):eK (l0 kvs k y) j=if j=k then some y else eK kvs j:=by
 unfold l0
 by_cases a:(kvs.any λ kv=>decide (kv.1=k))=true
 ·rw [RP a,uD];rw [iC] at a
  by_cases e:j=k
  ·obtain⟨x,hx⟩:=Sv.mp a;rw [RP e,e,hx,TQ,RP rfl]
  ·rw [RH e]
   cases eK kvs j with
   | none=>rfl
   | some x=>rw [TQ,RH e]
 ·rw [RH a];refine pZ k j y kvs ?_;rw [iC] at a
  cases q:eK kvs k with
  | none=>rfl
  | some x=>rw [q] at a;exact(a rfl).elim
def lE(kvs:List (κ × V))(k:κ)(v:V):(l0 kvs k v).length<=kvs.length+1:=by
 unfold l0;split
 ·rw [Rh];omega
 ·rw [RI,Sy,Vj];omega
def uM{kvs:List (κ × V)}{k:κ}(v:V)(h:eK kvs k=none):l0 kvs k v=kvs++[(k,v)]:=by
 unfold l0;rw [iC,h];exact if_neg (by decide)
def pB.isSome_eq{o:Option V}{u:Option Value}(r:pB o u):o.isSome=u.isSome:=by
 cases o with
 | none=>cases u with
  | none=>rfl
  | some _=>exact(show False from r).elim
 | some _=>cases u with
  | none=>exact(show False from r).elim
  | some _=>rfl
def pB.getD{o:Option V}{u:Option Value}{d:V}{d':Value}(r:pB o u)(rd:bD d d'):bD (o.getD d) (u.getD d'):=by
 cases o with
 | none=>cases u with
  | none=>exact rd
  | some _=>exact(show False from r).elim
 | some _=>cases u with
  | none=>exact(show False from r).elim
  | some _=>exact r
def KV.val{kvs:List (κ × V)}{vs:List (κ × Value)}(r:KV kvs vs)(k:κ):pB (eK kvs k) (valueAt vs k):=by
 unfold KV at r
 induction r with
 | nil=>exact True.intro
 | @cons p q ps qs h t ih=>
  obtain⟨h1,h2⟩:=h
  by_cases e:p.1=k
  ·have e':q.1=k:=h1.symm.trans e;have b:valueAt (q::qs) k=some q.2:=by simp [valueAt,TC,e']
   rw [b0 e,b];exact h2
  ·have e':¬ q.1=k:=λ z=>e (h1.trans z);have b:valueAt (q::qs) k=valueAt qs k:=by simp [valueAt,TC,e']
   rw [b6 e,b];exact ih
def KV.any{kvs:List (κ × V)}{vs:List (κ × Value)}(r:KV kvs vs)(k:κ):(kvs.any λ kv=>decide (kv.1=k))=vs.any λ kv=>decide (kv.1=k):=by
 unfold KV at r
 induction r with
 | nil=>rfl
 | cons h t ih=>rw [VL,VL,ih,h.1]
def KV.repl{kvs:List (κ × V)}{vs:List (κ × Value)}(r:KV kvs vs)(k:κ){y:V}{u:Value}(ry:bD y u) :
  KV (kvs.map λ kv=>if kv.1=k then (kv.1,y) else kv) (vs.map λ kv=>if kv.1=k then (kv.1,u) else kv):=by
 unfold KV at r ⊢
 induction r with
 | nil=>exact .nil
 | @cons p q ps qs h t ih=>
  rw [Sh,Sh];refine .cons ?_ ih;obtain⟨h1,h2⟩:=h
  by_cases e:p.1=k
  ·rw [RP e,RP (h1.symm.trans e)];exact⟨h1,ry⟩
  ·rw [RH e,RH (λ z=>e (h1.trans z))];exact⟨h1,h2⟩
def KV.put{kvs:List (κ × V)}{vs:List (κ × Value)}(r:KV kvs vs)(k:κ){y:V}{u:Value}(ry:bD y u):KV (l0 kvs k y) (stored vs k u):=by
 unfold l0 stored;rw [r.any k]
 by_cases e:(vs.any λ kv=>decide (kv.1=k))=true
 ·rw [RP e,RP e];exact r.repl k ry
 ·rw [RH e,RH e];exact Paired.snoc r ⟨rfl,ry⟩
def KV.length{kvs:List (κ × V)}{vs:List (κ × Value)}(r:KV kvs vs):kvs.length=vs.length:=U5 r
end
def vI{P:Program}{w:World}{k:Key}{u:Value}(r:bD (kV k) u):(bH P w).is k u=true:=by
 cases k with
 | inl i=>obtain⟨t,e⟩:=(show ∃ t,u=Value.int i t from r);subst e;exact tL P w i t
 | inr x=>obtain⟨t,e⟩:=(show ∃ t,u=Value.str x t from r);subst e;exact tK P w x t
def qu{P:Program}{w:World}:∀ {ks:List Key}{us:List Value},aU (ks.map kV) us->ItemsAre (bH P w) ks us
 | [],_,r=>by rw [Vg] at r;cases r;exact .nil
 | k::ks,_,r=>by
  rw [Sh] at r
  cases r with
  | cons h t=>exact .cons (vI h) (qu t)
abbrev KT(H:Hp):List (List Key × V)->List (List Key × Addr × Value)->Prop:=Paired λ p q=>p.1=q.1/\H q.2.1=some (.tup (p.1.map kV))/\bD p.2 q.2.2
def KT.val{H:Hp}{kvs:List (List Key × V)}{xs:List (List Key × Addr × Value)}(r:KT H kvs xs)(k:List Key):pB (eK kvs k) ((atKey xs k).map (·.2)):=by
 induction r with
 | nil=>exact True.intro
 | @cons p q ps qs h t ih=>
  obtain⟨h1,_,h2⟩:=h
  by_cases e:p.1=k
  ·have e':q.1=k:=h1.symm.trans e;have b:atKey (q::qs) k=some q.2:=by simp [atKey,TC,e']
   rw [b0 e,b];exact h2
  ·have e':¬ q.1=k:=λ z=>e (h1.trans z);have b:atKey (q::qs) k=atKey qs k:=by simp [atKey,TC,e']
   rw [b6 e,b];exact ih
def KT.repl{H:Hp}{kvs:List (List Key × V)}{xs:List (List Key × Addr × Value)}(r:KT H kvs xs)(k:List Key){y:V}{u:Value}(ry:bD y u) :
  KT H (kvs.map λ kv=>if kv.1=k then (kv.1,y) else kv) (xs.map (putAt k u)):=by
 induction r with
 | nil=>exact .nil
 | @cons p q ps qs h t ih=>
  rw [map_cons,map_cons];refine .cons ?_ ih;obtain⟨h1,h2,h3⟩:=h;unfold putAt
  by_cases e:p.1=k
  ·rw [RP e,RP (h1.symm.trans e)];exact⟨h1,h2,ry⟩
  ·rw [RH e,RH (λ z=>e (h1.trans z))];exact⟨h1,h2,h3⟩
def KT.put{H:Hp}{kvs:List (List Key × V)}{xs:List (List Key × Addr × Value)}(r:KT H kvs xs)(k:List Key){b:Addr}{y:V}{u:Value}(hb:H b=some (.tup (k.map kV)))(ry:bD y u) :
  KT H (l0 kvs k y) (storedH xs k b u):=by
 have e:(kvs.any λ kv=>decide (kv.1=k))=(atKey xs k).isSome:=by
  rw [iC,(r.val k).isSome_eq,Vr]
 unfold l0 storedH;rw [e]
 by_cases q:(atKey xs k).isSome=true
 ·rw [RP q,RP q];exact r.repl k ry
 ·rw [RH q,RH q];exact Paired.snoc r ⟨rfl,hb,ry⟩
def KT.keeps{H H':Hp}{kvs:List (List Key × V)}{xs:List (List Key × Addr × Value)}(r:KT H kvs xs)(ht:∀ b ys,H b=some (.tup ys)->H' b=some (.tup ys)):KT H' kvs xs:=
 Paired.mapP r λ _ _ z=>⟨z.1,ht _ _ z.2.1,z.2.2⟩
section
variable {P:Program}{w:World}{H:Hp}{h:Heap}{a:Addr}
def Kg{u:HO}(ok:HOk P w H h)(e:Rd H a u):bW P w H h a u:=e.ok ok
def rY{kvs:List (Key × V)}(ok:HOk P w H h)(e:Rd H a (.dK kvs)):kvs.length<=sizeLine/\(a == sysModules)=false/\∃ vs,KV kvs vs/\h.DictOf (bH P w) a vs:=
 show bW P w H h a (.dK kvs) from Kg ok e
def Gs{kvs:List (Key × V)}(ok:HOk P w H h)(e:H a=some (.dK kvs)):kvs.length<=sizeLine/\(a == sysModules)=false/\∃ vs,KV kvs vs/\h.DictOf (bH P w) a vs:=rY ok (.inl e)
def mD{ks:List Key}(ok:HOk P w H h)(e:H a=some (.tup (ks.map kV))):(tupleKind (bH P w)).is h ks a:=by
 obtain⟨_,its,r,o,h1,h2,n,h3⟩:=(show bW P w H h a (.tup (ks.map kV)) from ok a _ e);exact⟨o,its.toArray,n,h1,h2,h3,by simpa using qu r⟩
def rX{kvs:List (List Key × V)}(ok:HOk P w H h)(e:Rd H a (.dT kvs)):kvs.length<=sizeLine/\(a == sysModules)=false /\
  ∃ xs,KT H kvs xs/\h.DictOfH (tupleKind (bH P w)) a xs:=by
 obtain⟨z,y,xs,r,o,es,ep,h1,h2,h3,h4,h5⟩:=(show bW P w H h a (.dT kvs) from Kg ok e);refine⟨z,y,xs,r,o,es,ep,h1,h2,h3,h4,λ x hx=>?_,h5⟩
 have all:∀ {l:List (List Key × V)} {m:List (List Key × Addr × Value)},KT H l m->∀ x∈m,(tupleKind (bH P w)).is h x.1 x.2.1:=by
  intro l m q
  induction q with
  | nil=>intro x hx;exact nomatch hx
  | @cons p q ps qs hq t ih=>
   intro x hx
   rcases Rz.mp hx with e|hx
   ·subst e;exact mD ok (by rw [←hq.1];exact hq.2.1)
   ·exact ih x hx
 exact all r x hx
def Pt{kvs:List (List Key × V)}(ok:HOk P w H h)(e:H a=some (.dT kvs)):kvs.length<=sizeLine/\(a == sysModules)=false /\
  ∃ xs,KT H kvs xs/\h.DictOfH (tupleKind (bH P w)) a xs:=rX ok (.inl e)
end
def pD(H:Hp)(a:Addr)(y:V)(r:Option V):Prop:=
 (∃ kvs k,Rd H a (.dK kvs)/\y=kV k/\r=eK kvs k)\/∃ kvs k b,Rd H a (.dT kvs)/\y=.ref b/\H b=some (.tup (k.map kV))/\r=eK kvs k
def JT(H:Hp)(a:Addr)(y v:V)(H':Hp):Prop:=
 (∃ kvs k,H a=some (.dK kvs)/\y=kV k/\kvs.length < sizeLine/\H'=upd H a (.dK (l0 kvs k v))) \/
 ∃ kvs k b,H a=some (.dT kvs)/\y=.ref b/\H b=some (.tup (k.map kV))/\kvs.length < sizeLine/\H'=upd H a (.dT (l0 kvs k v))
def pD.k{H:Hp}{a:Addr}{kvs:List (Key × V)}{k:Key}(e:H a=some (.dK kvs)):pD H a (kV k) (eK kvs k):=.inl ⟨kvs,k,.inl e,rfl,rfl⟩
def JT.k{H:Hp}{a:Addr}{kvs:List (Key × V)}{k:Key}{v:V}(e:H a=some (.dK kvs))(hl:kvs.length < sizeLine):JT H a (kV k) v (upd H a (.dK (l0 kvs k v))):=.inl ⟨kvs,k,e,rfl,hl,rfl⟩
section
variable {X:Cx}{pins:List (Addr × Obj)}{σ:St}{H:Hp}{s:Shared}{a:Addr}{y v:V}{u r:Value}{o:Option V}{A:Around}{E:Value->Shared->Prop}
def Inv.big(I:Inv X pins σ H s):sysModules < s.heap.objs.size:=by
 have h:mainGlobals < s.heap.objs.size:=(I.mod.glob.keeps I.bk).lt;exact Ux (by decide) h
def Bs{Q:Value->Shared->Prop}(hu:A.units+1 < cLine)(I:Inv X pins σ H s)(g:pD H a y (some v))(ry:bD y u)(h:∀ w' s',Inv X pins σ H s'->bD v w'->Q w' s') :
  wpAny (model X.prog X.w) A (getItem (.ref a) u) Q E s:=by
 rcases g with ⟨kvs,k,e,ey,l⟩|⟨kvs,k,b,e,ey,eb,l⟩
 ·subst ey;obtain⟨z,hd,vs,rel,dd⟩:=rY I.hok e;obtain⟨w',hw,aS⟩:=pB.some_of (v:=v) (o:=valueAt vs k) (by rw [l];exact rel.val k);exact wpAny_getItem_of (vI ry) dd.mapOf hw (h w' _ (I.tok _) aS)
 ·subst ey;cases (show u=Value.ref b from ry);obtain⟨z,hd,xs,rel,dd⟩:=rX I.hok e;obtain⟨w',hw,aS⟩:=pB.some_of (v:=v) (o:=(atKey xs k).map (·.2)) (by rw [l];exact rel.val k);obtain⟨p,hp,aX⟩:=Rm.mp hw;refine wpAny_getItem_heap (Uc hu) (mD I.hok eb) dd hp ?_;rw [aX];exact h w' _ (I.tok _) aS
def Q3{Q:Value->Shared->Prop}(hu:A.units+1 < cLine)(I:Inv X pins σ H s)(g:pD H a y o)(ry:bD y u)(h:∀ s',Inv X pins σ H s'->Q (.bool o.isSome) s') :
  wpAny (model X.prog X.w) A (compareOp .In u (.ref a)) Q E s:=by
 rcases g with ⟨kvs,k,e,ey,l⟩|⟨kvs,k,b,e,ey,eb,l⟩
 ·subst ey;obtain⟨z,hd,vs,rel,dd⟩:=rY I.hok e;refine wpAny_in_of (vI ry) hd dd.mapOf ?_;rw [←(rel.val k).isSome_eq,←l];exact h _ (I.tok _)
 ·subst ey;cases (show u=Value.ref b from ry);obtain⟨z,hd,xs,rel,dd⟩:=rX I.hok e;refine wpAny_in_heap (Uc hu) (mD I.hok eb) hd dd ?_;have q:=(rel.val k).isSome_eq;rw [Vr] at q;rw [←q,←l];exact h _ (I.tok _)
def sR{h':Heap}{t':Nat}{ob:HO}(I:Inv X pins σ H s)(mu:Mut (H a))(hs:Heap.SameBut a s.heap h')(he:∃ q,h'.get? a=some q)(new:bW X.prog X.w (upd H a ob) h' a ob) :
  Inv X pins σ (upd H a ob) { s with heap:=h',toks:=t' }:=
 I.write (x:=a) (e:=a) mu (.inl rfl) (λ b q hb z=>(hs.2 b hb).trans z) he new
def M6{P:Program}{w:World}{H':Hp}{h':Heap}{kvs:List (Key × V)}{vs:List (Key × Value)}(z:kvs.length<=sizeLine)(hd:(a == sysModules)=false)(rel:KV kvs vs)(dd:h'.DictOf (bH P w) a vs) :
  bW P w H' h' a (.dK kvs):=⟨z,hd,vs,rel,dd⟩
def Br{H':Hp}{Q:Unit->Shared->Prop}(hu:A.units+1 < cLine)(I:Inv X pins σ H s)(g:JT H a y v H')(ry:bD y u)(rv:bD v r)(h:∀ s',Inv X pins σ H' s'->Q () s') :
  wpAny (model X.prog X.w) A (setItem (.ref a) u r) Q E s:=by
 rcases g with ⟨kvs,k,e,ey,l,eH⟩|⟨kvs,k,b,e,ey,eb,l,eH⟩
 ·subst ey eH;obtain⟨z,hd,vs,rel,dd⟩:=Gs I.hok e;have hz:vs.length<=sizeLine:=by rw [←rel.length];exact z
  have hl:(l0 kvs k v).length<=sizeLine:=by have:=lE kvs k v;omega
  refine wpAny_setItem_pairs (hsz:=hz) (vI ry) dd λ h' aS hs=>h _ ?_;have he:∃ q,h'.get? a=some q:=let ⟨q,_,_,hq,_⟩:=aS;⟨q,hq⟩;exact sR I (by rw [e];exact True.intro) hs he (M6 hl hd (rel.put k rv) aS)
 ·subst ey eH;cases (show u=Value.ref b from ry);obtain⟨z,hd,xs,rel,dd⟩:=Pt I.hok e;have hz:xs.length<=sizeLine:=by rw [←U5 rel];exact z
  have hl:(l0 kvs k v).length<=sizeLine:=by have:=lE kvs k v;omega
  refine wpAny_setItem_heap (hsz:=hz) (Uc hu) (mD I.hok eb) dd λ h' aS hs=>h _ ?_;obtain⟨q,es,ep,hq,h2,h3,h4,_,h5⟩:=aS;refine sR I (by rw [e];exact True.intro) hs ⟨q,hq⟩ ⟨hl,hd,_,(rel.put k eb rv).keeps λ c ys ec=>?_,q,es,ep,hq,h2,h3,h4,h5⟩;rw [ah (OM ec e (λ z=>nomatch z))];exact ec
end
section
variable {X:Cx}{pins:List (Addr × Obj)}{σ:St}{H:Hp}{s:Shared}{a:Addr}{kvs:List (Key × V)}{k:Key}{u:Value}{A:Around}{E:Value->Shared->Prop}
end
def QD(i:Expr):Prop:=∀ ov iv,subscripted i false ov iv=operate [ov,iv] (getItem ov iv)
def GV{prog:Program}{w:World}{A:Around}{E:Value->Shared->Prop}{s:Shared}{env:Env}{value slice:Expr}{pos:Pos}{T id:String}{Q:Value->Shared->Prop}
  (hl:typeLookup (.type T) "__getitem__"=pure (some (.builtin id))) (hs:QD slice)
  (h:wpAny (model prog w) A (eval value env) (λ o s₁=>wpAny (model prog w) A (eval slice env) (λ i s₂=>s₂.TypeIs o T/\wpAny (model prog w) A (getItem o i) Q E s₂) E s₁) E s) :
  wpAny (model prog w) A (eval (.Subscript value slice pos) env) Q E s:=by
 refine Subscript_ (wpAny_mono h (λ o s₁ h₁=>wpAny_mono h₁ (λ i s₂ h₂=>?_) λ _ _ x=>x) λ _ _ x=>x);obtain⟨hT,h₂⟩:=h₂;unfold subscriptTail;refine wpAny_bind ?_;rw [getitemInPython_of_ne hT.not_modules];refine wpAny_bind (wpAny_specialOf hT hl ?_)
 have fin:wpAny (model prog w) A (subscripted slice false o i) (λ r s₃=>wpAny (model prog w) A (letTemporaryGo value o r >>= λ _=>pure r) Q E s₃) E s₂:=by
  rw [hs o i];exact wpAny_operating (UT h₂ (λ r s₃ h₃=>My (wpAny_letTemporaryGo (Ri h₃))) λ _ _ x=>x)
 first
  | exact Ri (My fin)
  | exact My (Ri (My fin))
  | exact My fin
def t5{X:Cx}{pins:List (Addr × Obj)}{σ:St}{H:Hp}{s:Shared}{a:Addr}{y:V}{o:Option V}(I:Inv X pins σ H s)(g:pD H a y o):s.TypeIs (.ref a) "dict":=by
 rcases g with ⟨kvs,k,e,_,_⟩|⟨kvs,k,b,e,_,_,_⟩
 ·obtain⟨_,_,vs,_,dd⟩:=rY I.hok e;exact dd.typeIs
 ·obtain⟨_,_,xs,_,dd⟩:=rX I.hok e;exact dd.typeIs
def Ka(td ty:TE):TE:=λ σ H Q=>td σ H λ x H1=>ty σ H1 λ y H2=>∃ a v,x=.ref a/\pD H2 a y (some v)/\Q v H2
def Kf(td ty tv:TE):TS:=λ D σ H=>tv σ H λ v H1=>td σ H1 λ x H2=>ty σ H2 λ y H3=>∃ a H4,x=.ref a/\JT H3 a y v H4/\D.nx σ H4
section
variable {X:Cx}{o i e value:Expr}{pos pos' tpos:Pos}{td ty tv:TE}
def yB(hu:X.A.units+1 < cLine)(ho:PE X o td)(hi:PE X i ty)(hs:QD i):PE X (.Subscript o i pos) (Ka td ty):=by
 intro pins s σ H Q I h;refine GV PySem.F.slot_dict_getitem.lookup hs (thn (ho pins s σ H _ I h) λ u s1 ⟨x,H1,I1,rx,q1⟩=>thn (hi pins s1 σ H1 _ I1 q1) λ iv s2 ⟨y,H2,I2,ry,a,v,ex,g,q2⟩=>?_);subst ex;obtain rfl:u=Value.ref a:=rx;exact⟨t5 I2 g,Bs hu I2 g ry λ w' s3 I3 aS=>⟨v,H2,I3,aS,q2⟩⟩
def kj(hu:X.A.units+1 < cLine)(ho:PE X o td)(hi:PE X i ty)(hv:PE X value tv)(hs:swapsWith value (some (.Subscript o i pos')) pos.line X.env=pure false) :
  PS X (.Assign [.Subscript o i pos'] value pos) (Kf td ty tv):=by
 intro pins s σ H D I h;refine wpAny_Assign_Subscript (thn (hv pins s σ H _ I h) λ r s1 ⟨v,H1,I1,rv,q1⟩=>thn (ho pins s1 σ H1 _ I1 q1) λ u s2 ⟨x,H2,I2,rx,q2⟩=>thn (hi pins s2 σ H2 _ I2 q2) λ iv s3 ⟨y,H3,I3,ry,a,H4,ex,g,q3⟩=>?_) hs;subst ex;obtain rfl:u=Value.ref a:=rx;exact Br hu I3 g ry rv λ s4 I4=>⟨σ,H4,I4,q3⟩
end
def ED{P:Program}{w:World}{H:Hp}(h:Heap)(hb:sysModules < h.objs.size):bW P w H (h.push { cls:=.type "dict",data:=.dict #[] }) h.objs.size (.dK []):=
 ⟨So _,Ta.mpr (Ru (RC hb)),[],.nil,Heap.DictOf.new h⟩
def KZ:TE:=λ _ H Q=>∀ p,H p=none->Q (.ref p) (upd H p (.dK []))
section
variable {X:Cx}{pos:Pos}
def CY:PE X (.Dict [] [] pos) KZ:=λ pins s σ H Q I h=>
 wpAny_Dict_empty ⟨.ref s.heap.objs.size,_,I.laid (a:=s.heap.objs.size) (o:=.dK []) (t':=s.toks) (λ _ _ q=>Rc _ q) (Rl _) (ED s.heap I.big),rfl,h _ (I.hok.fresh (Rl _))⟩
end
structure M1(X:Cx)(o:Expr)(m:Str)(apos:Pos)(e:Expr)(cpos:Pos):Prop where
 base:attributeBase o m X.env (eval o X.env)=eval o X.env
 few:((backTo cpos (starEach [e] X.env)).all (λ x=>!x.1) && (backToKw cpos (keywordEach [] X.env)).all (λ x=>x.1.isSome)
  && decide (([e]:List Expr).length+([]:List Keyword).length+(if ([]:List Keyword).isEmpty then 0 else 1) < 30))=true
 line:(apos.endLine == cpos.line)=true
 trees:backTo cpos (starEach [e] X.env)=[(false,eval e X.env)]
structure M2(X:Cx)(o:Expr)(m:Str)(apos:Pos)(e f:Expr)(cpos:Pos):Prop where
 base:attributeBase o m X.env (eval o X.env)=eval o X.env
 few:((backTo cpos (starEach [e,f] X.env)).all (λ x=>!x.1) && (backToKw cpos (keywordEach [] X.env)).all (λ x=>x.1.isSome)
  && decide (([e,f]:List Expr).length+([]:List Keyword).length+(if ([]:List Keyword).isEmpty then 0 else 1) < 30))=true
 line:(apos.endLine == cpos.line)=true
 trees:backTo cpos (starEach [e,f] X.env)=[(false,eval e X.env),(false,eval f X.env)]
def IsD(H:Hp)(a:Addr):Prop:=(∃ kvs,Rd H a (.dK kvs))\/∃ kvs,Rd H a (.dT kvs)
def Fs{X:Cx}{pins:List (Addr × Obj)}{σ:St}{H:Hp}{s:Shared}{a:Addr}(I:Inv X pins σ H s)(d:IsD H a) :
  s.TypeIs (.ref a) "dict" /\ (∀ b,Value.ref a=.ref b->∃ ob,s.heap.get? b=some ob/\ob.dict=none)/\(a == sysModules)=false:=by
 rcases d with ⟨kvs,e⟩|⟨kvs,e⟩
 ·obtain⟨_,hd,vs,_,dd⟩:=rY I.hok e;refine⟨dd.typeIs,λ b q=>?_,hd⟩;cases q;obtain⟨ob,_,_,h1,h2,_⟩:=dd;exact⟨ob,h1,h2.2.1⟩
 ·obtain⟨_,hd,xs,_,dd⟩:=rX I.hok e;refine⟨dd.typeIs,λ b q=>?_,hd⟩;cases q;obtain⟨ob,_,_,h1,h2,_⟩:=dd;exact⟨ob,h1,h2.2.1⟩
section
variable {X:Cx}{pins:List (Addr × Obj)}{σ:St}{H:Hp}{s:Shared}{a:Addr}{y d:V}{u r:Value}{o:Option V}{A:Around}{E:Value->Shared->Prop}
def M8{Q:Value->Shared->Prop}(hu:A.units+1 < cLine)(I:Inv X pins σ H s)(g:pD H a y o)(ry:bD y u)(h:∀ w' s',Inv X pins σ H s'->bD (o.getD .non) w'->Q w' s') :
  wpAny (model X.prog X.w) A (call (.builtin "dict.get") [.ref a,u]) Q E s:=by
 rcases g with ⟨kvs,k,e,ey,l⟩|⟨kvs,k,b,e,ey,eb,l⟩
 ·subst ey;obtain⟨z,hd,vs,rel,dd⟩:=rY I.hok e;refine call_meetsIn S2 dd.typeIs T4 (PySem.F.args_dict_get_2 _ _) (meets_dict_get (bH X.prog X.w) a (vI ry) hd) ⟨_,dd.mapOf,h _ _ (I.tok _) ?_⟩;rw [l];exact(rel.val k).getD rfl
 ·subst ey;cases (show u=Value.ref b from ry);obtain⟨z,hd,xs,rel,dd⟩:=rX I.hok e;refine call_meetsIn S2 dd.typeIs T4 (PySem.F.args_dict_get_2 _ _) (meetsH_dict_get (tupleKind (bH X.prog X.w)) a b hd) ⟨Uc hu,k,xs,mD I.hok eb,dd,h _ _ (I.tok _) ?_⟩;rw [l];exact(rel.val k).getD rfl
def M7{Q:Value->Shared->Prop}(hu:A.units+1 < cLine)(I:Inv X pins σ H s)(g:pD H a y o)(ry:bD y u)(rd:bD d r)(h:∀ w' s',Inv X pins σ H s'->bD (o.getD d) w'->Q w' s') :
  wpAny (model X.prog X.w) A (call (.builtin "dict.get") [.ref a,u,r]) Q E s:=by
 rcases g with ⟨kvs,k,e,ey,l⟩|⟨kvs,k,b,e,ey,eb,l⟩
 ·subst ey;obtain⟨z,hd,vs,rel,dd⟩:=rY I.hok e;refine call_meetsIn S2 dd.typeIs T4 (PySem.F.args_dict_get_3 _ _ _) (meets_dict_get_default (bH X.prog X.w) a (vI ry) hd r) ⟨_,dd.mapOf,h _ _ (I.tok _) ?_⟩;rw [l];exact(rel.val k).getD rd
 ·subst ey;cases (show u=Value.ref b from ry);obtain⟨z,hd,xs,rel,dd⟩:=rX I.hok e;refine call_meetsIn S2 dd.typeIs T4 (PySem.F.args_dict_get_3 _ _ _) (meetsH_dict_get_default (tupleKind (bH X.prog X.w)) a b hd r) ⟨Uc hu,k,xs,mD I.hok eb,dd,h _ _ (I.tok _) ?_⟩;rw [l];exact(rel.val k).getD rd
end
def E9(td ty:TE):TE:=λ σ H Q=>td σ H λ x H1=>∃ a,x=.ref a/\IsD H1 a/\ty σ H1 λ y H2=>∃ o,pD H2 a y o/\Q (o.getD .non) H2
def E8(td ty tx:TE):TE:=λ σ H Q=>td σ H λ x H1=>∃ a,x=.ref a/\IsD H1 a/\ty σ H1 λ y H2=>tx σ H2 λ z H3=>∃ o,pD H3 a y o/\Q (o.getD z) H3
section
variable {X:Cx}{o e f:Expr}{apos cpos:Pos}{td ty tx:TE}
def Dc(hu:X.A.units+1 < cLine)(ho:PE X o td)(he:PE X e ty)(m:M1 X o "get" apos e cpos):PE X (.Call (.Attribute o "get" apos) [e] [] cpos) (E9 td ty):=by
 intro pins s σ H Q I h;refine wpAny_Call_method m.base m.few m.line PySem.F.plainAttrs_dict S2 PySem.F.type_dict_get (thn (ho pins s σ H _ I h) λ u s1 ⟨x,H1,I1,rx,a,ex,d,q1⟩=>?_);subst ex;obtain rfl:u=Value.ref a:=rx;obtain⟨t1,t2,_⟩:=Fs I1 d;refine⟨t1,t2,?_⟩;rw [m.trees];refine Ul rfl (Vu (Ts (thn (he pins s1 σ H1 _ I1 q1) λ iv s2 ⟨y,H2,I2,ry,ov,g,q2⟩=>Uo ?_)));exact M8 hu I2 g ry λ w' s3 I3 aS=>⟨_,H2,I3,aS,q2⟩
def CZ(hu:X.A.units+1 < cLine)(ho:PE X o td)(he:PE X e ty)(hf:PE X f tx)(m:M2 X o "get" apos e f cpos):PE X (.Call (.Attribute o "get" apos) [e,f] [] cpos) (E8 td ty tx):=by
 intro pins s σ H Q I h;refine wpAny_Call_method m.base m.few m.line PySem.F.plainAttrs_dict S2 PySem.F.type_dict_get (thn (ho pins s σ H _ I h) λ u s1 ⟨x,H1,I1,rx,a,ex,d,q1⟩=>?_);subst ex;obtain rfl:u=Value.ref a:=rx;obtain⟨t1,t2,_⟩:=Fs I1 d;refine⟨t1,t2,?_⟩;rw [m.trees]
 refine Ul rfl (Vu (Ts (thn (he pins s1 σ H1 _ I1 q1) λ iv s2 ⟨y,H2,I2,ry,q2⟩=>
  Ts (thn (hf pins s2 σ H2 _ I2 q2) λ fv s3 ⟨z,H3,I3,rz,ov,g,q3⟩=>Uo ?_))))
 exact M7 hu I3 g ry rz λ w' s4 I4 aS=>⟨_,H3,I4,aS,q3⟩
end
section
variable {X:Cx}{pins:List (Addr × Obj)}{σ:St}{H:Hp}{s:Shared}{a:Addr}{kvs:List (Key × V)}{A:Around}{E:Value->Shared->Prop}
end
section
variable {X:Cx}{pins:List (Addr × Obj)}{σ:St}{H:Hp}{s:Shared}{a:Addr}{y:V}{u:Value}{A:Around}{E:Value->Shared->Prop}
end
section
variable {κ:Type}[DecidableEq κ]
end
section
variable {X:Cx}
def Gv(i j:Int):Prop:=i.natAbs < 2 ^ 256/\j.natAbs < 2 ^ 256
def zk{i:Int}(h:i.natAbs < 2 ^ 256):Builtin.Int.intBits i<=2 ^ 20:=Sj (intBits_le h) (by decide)
def Hw:OpR X (binaryOp .Mult) (rI Gv λ i j=>.int (i * j)):=opI λ _ _ _ _ _ _ _ hc q=>mul_int q (IntMulOk.of_bits (zk hc.1) (zk hc.2))
def EH:cu X (.builtin "isinstance") (λ xs H Q=>∃ x n ty b,xs=[x,.ty n]/\ui X.K H x ty/\W.kitOne X.K ty (.type n)=some b/\Q (.bl b) H):=by
 intro pins s σ H xs us Q I r h;obtain⟨x,n,ty,b,rfl,aS,hk,q⟩:=h;obtain⟨u,w',rfl,rx,rc⟩:=FF r;cases (show w'=Value.type n from rc);exact Bl I rx aS hk (λ tk=>⟨.bl b,H,I.tok _,rfl,q⟩)
def Bg(K:W.Frag)(A B:String)(r:Bool)
  (h:(if (Value.type A == Value.type B)=true then some true else if W.kitMeta B=true then (fastBuiltinMro A).map (·.contains (.type B)) else none)=some r):W.kitOne K (.type A) (.type B)=some r:=h
mutual
inductive nv (K:PySem.W.Frag) (H:Hp):V->PyData->Prop
 | non:nv K H .non .none
 | bl (b:Bool):nv K H (.bl b) (.bool b)
 | int (i:Int):nv K H (.int i) (.int i)
 | str (x:Str):nv K H (.str x) (.str x)
 | lst {a:Addr} {xs:List V} {ds:List PyData} (h:SqL K H a xs) (r:j8 K H xs ds):nv K H (.ref a) (.list ds)
 | tup {a:Addr} {xs:List V} {ds:List PyData} (h:SqT K H a xs) (r:j8 K H xs ds):nv K H (.ref a) (.tuple ds)
inductive j8 (K:PySem.W.Frag) (H:Hp):List V->List PyData->Prop
 | nil:j8 K H [] []
 | cons {x:V} {d:PyData} {xs:List V} {ds:List PyData} (h:nv K H x d) (t:j8 K H xs ds):j8 K H (x::xs) (d::ds)
end
mutual
def nv.reads{pins:List (Addr × Obj)}{σ:St}{H:Hp}{s:Shared}(I:Inv X pins σ H s):∀ {x:V}{d:PyData}{u:Value},nv X.K H x d->bD x u->∃ as,Reads s.heap u d as
 | _,_,_,.non,r=>by cases (show _=Value.none from r);exact⟨_,.none⟩
 | _,_,_,.bl b,r=>by cases (show _=Value.bool b from r);exact⟨_,.bool b⟩
 | _,_,_,.int i,r=>by obtain⟨t,rfl⟩:=r;exact⟨_,.int i t⟩
 | _,_,_,.str x,r=>by obtain⟨t,rfl⟩:=r;exact⟨_,.str x t⟩
 | _,_,_,@nv.lst _ _ a xs ds h q,r=>by
  cases (show _=Value.ref a from r);obtain⟨its,hv,hp,_⟩:=I.list h;obtain⟨o,n,e,c,_,d⟩:=hp;obtain⟨as,z⟩:=j8.reads I q hv;exact⟨_,.list e c d (by simpa using z)⟩
 | _,_,_,@nv.tup _ _ a xs ds h q,r=>by
  cases (show _=Value.ref a from r);obtain⟨its,hv,hp,_⟩:=I.tuple h;obtain⟨o,e,c,n,d⟩:=hp;obtain⟨as,z⟩:=j8.reads I q hv;exact⟨_,.tuple e c d (by simpa using z)⟩
def j8.reads{pins:List (Addr × Obj)}{σ:St}{H:Hp}{s:Shared}(I:Inv X pins σ H s):∀ {xs:List V}{ds:List PyData}{us:List Value},j8 X.K H xs ds->aU xs us->∃ as,ReadsAll s.heap us ds as
 | _,_,_,.nil,.nil=>⟨_,.nil⟩
 | _,_,_,.cons h t,.cons r q=>by
  obtain⟨as,z⟩:=nv.reads I h r;obtain⟨bs,y⟩:=j8.reads I t q;exact⟨_,.cons z y⟩
end
def QQ(K:W.Frag):R2:=λ x y H Q=>∃ d e,nv K H x d/\nv K H y e/\SeqAt.shaped d=true/\SeqAt.shaped e=true/\Q (.bl (PyData.eqv d e)) H
def QM(K:W.Frag):R2:=λ x y H Q=>∃ d e,nv K H x d/\nv K H y e/\SeqAt.shaped d=true/\SeqAt.shaped e=true/\Q (.bl (!PyData.eqv d e)) H
def Lo(hu:X.A.units+64 < cLine):OpR X (compareOp .Eq) (QQ X.K):=by
 intro pins s σ H x y v u Q I rx ry h;obtain⟨d,e,hd,he,sd,se,q⟩:=h;obtain⟨as,z⟩:=hd.reads I rx;obtain⟨bs,z'⟩:=he.reads I ry;exact SeqAt.compareEq_shaped z z' sd se hu ⟨.bl _,H,I,rfl,q⟩
def Lk(hu:X.A.units+64 < cLine):OpR X (compareOp .NotEq) (QM X.K):=by
 intro pins s σ H x y v u Q I rx ry h;obtain⟨d,e,hd,he,sd,se,q⟩:=h;obtain⟨as,z⟩:=hd.reads I rx;obtain⟨bs,z'⟩:=he.reads I ry;exact SeqAt.compareNe_shaped z z' sd se hu ⟨.bl _,H,I,rfl,q⟩
end
def Cy{H:Hp}{p:Addr}{o:HO}(h:H p=none):pF H (upd H p o):=λ b u e=>by
 rw [ah (cg e h)];exact e
def Fy{α:Type}(xs:List α)(i:Int)(h0:0<=i)(h1:i < xs.length):∃ v,atI xs i=some v/\v∈xs:=by
 have hl:i.toNat < xs.length:=by omega
 refine⟨xs[i.toNat],?_,SQ hl⟩;have e:((i.toNat:Nat):Int)=i:=by omega
 have:=cI (xs:=xs) (j:=i.toNat) (v:=xs[i.toNat]) (Rb hl);rw [e] at this;exact this
def va(ns:List Int)(i:Int)(h0:0<=i)(h1:i < ns.length):∃ z,atI (ns.map V.int) i=some (.int z)/\z∈ns:=by
 obtain⟨v,e,m⟩:=Fy (ns.map V.int) i h0 (by simpa using h1);obtain⟨z,hz,rfl⟩:=Rj.mp m;exact⟨z,e,hz⟩
def pA(cells:List (Str × Addr)):List (Str × NameKind)->List (Str × Addr)->List (Str × Addr)
 | [],acc=>acc
 | (n,k)::r,acc=>if (k == .free)=true then pA cells r ((n,(cells.lookup n).getD 0)::acc) else pA cells r acc
def ic{env:Env}:∀ (names:List (Str × NameKind)) (acc:List (Str × Addr)),(∀ y∈names,y.2=.free->∃ c,env.cells.lookup y.1=some c) →
  (forIn names acc (λ (x:Str × NameKind) (cs:List (Str × Addr))=>match x with
   | (name,kind)=>if (kind == .free)=true then (do let a ←cellOf env name;pure (ForInStep.yield ((name,a)::cs))) else (do pure PUnit.unit;pure (ForInStep.yield cs))):Sem (List (Str × Addr)))=pure (pA env.cells names acc)
 | [],acc,_=>rfl
 | (n,k)::r,acc,h=>by
  rw [T1];have hr:∀ y∈r,y.2=.free->∃ c,env.cells.lookup y.1=some c:=λ y hy=>h y (Ro _ hy)
  by_cases hk:(k == .free)=true
  ·obtain⟨c,hc⟩:=h (n,k) mem_cons_self (by simpa using hk);have aS:env.cells.lookup n=some c:=hc;simp only [hk,if_true,pA,aS,Option.getD_some];have e:cellOf env n=pure c:=by unfold cellOf;rw [aS]
   rw [e];exact ic r _ hr
  ·simp only [hk,Ua,pA];exact ic r acc hr
def iR{scope:Scope}{env:Env}(h:∀ y∈scope.names,y.2=.free->∃ c,env.cells.lookup y.1=some c):closureFor scope env=pure (pA env.cells scope.names []):=by
 unfold closureFor;have:=ic (env:=env) scope.names [] h
 first
  | exact(SA (λ m=>m >>= λ cs=>pure cs) this).trans (pure_bind _ _)
  | (simp only [] at this ⊢;rw [this];rfl)
def oF{cells:List (Str × Addr)}{x:Str}{c:Addr}:∀ {names:List (Str × NameKind)}{acc:List (Str × Addr)},(∀ y∈names,y.2=.free->∃ c,cells.lookup y.1=some c)->(pA cells names acc).lookup x=some c->acc.lookup x=some c\/cells.lookup x=some c
 | [],acc,_,h=>.inl h
 | (n,k)::r,acc,hf,h=>by
  have hr:∀ y∈r,y.2=.free->∃ c,cells.lookup y.1=some c:=λ y hy=>hf y (mem_cons_of_mem _ hy);unfold pA at h
  by_cases hk:(k == .free)=true
  ·rw [RP hk] at h
   rcases oF hr h with q|q
   ·rw [Tu] at q
    cases hx:x == n with
    | true=>
     rw [hx] at q;obtain⟨d,hd⟩:=hf (n,k) Rr (by simpa using hk);have e:x=n:=by simpa using hx
     subst e;have aS:cells.lookup x=some d:=hd;rw [aS] at q ⊢;exact .inr (by simpa using q)
    | false=>rw [hx] at q;exact .inl q
   ·exact .inr q
  ·rw [RH hk] at h;exact oF hr h
def oG{cells:List (Str × Addr)}{x:Str}:∀ {names:List (Str × NameKind)}{acc:List (Str × Addr)},(∀ y∈names,y.2=.free->∃ c,cells.lookup y.1=some c)->(∃ c,acc.lookup x=some c)->∃ c,(pA cells names acc).lookup x=some c
 | [],acc,_,h=>h
 | (n,k)::r,acc,hf,h=>by
  have hr:∀ y∈r,y.2=.free->∃ c,cells.lookup y.1=some c:=λ y hy=>hf y (mem_cons_of_mem _ hy);unfold pA
  by_cases hk:(k == .free)=true
  ·rw [RP hk];refine oG hr ?_;rw [Tu]
   cases hx:x == n with
   | true=>exact⟨_,rfl⟩
   | false=>exact h
  ·rw [RH hk];exact oG hr h
def jW{cells:List (Str × Addr)}{x:Str}:∀ {names:List (Str × NameKind)}{acc:List (Str × Addr)},(∀ y∈names,y.2=.free->∃ c,cells.lookup y.1=some c)->names.lookup x=some .free->∃ c,(pA cells names acc).lookup x=some c
 | [],acc,_,h=>by simp at h
 | (n,k)::r,acc,hf,h=>by
  have hr:∀ y∈r,y.2=.free->∃ c,cells.lookup y.1=some c:=λ y hy=>hf y (mem_cons_of_mem _ hy);rw [lookup_cons] at h;unfold pA
  cases hx:x == n with
  | true=>
   rw [hx] at h;have hk:k=.free:=by simpa using h
   subst hk;rw [RP (show (NameKind.free == NameKind.free)=true from rfl)];refine oG hr ⟨(cells.lookup n).getD 0,?_⟩;rw [Tu,hx]
  | false=>
   rw [hx] at h
   by_cases hk:(k == .free)=true
   ·rw [RP hk];exact jW hr h
   ·rw [RH hk];exact jW hr h
def gM{x:Str}{k:NameKind}:∀ {names:List (Str × NameKind)},names.lookup x=some k->(x,k)∈names
 | [],h=>by simp at h
 | (n,j)::r,h=>by
  rw [Tu] at h
  cases hx:x == n with
  | true=>
   rw [hx] at h;have e:x=n:=by simpa using hx
   have e2:j=k:=by simpa using h
   subst e;subst e2;exact Rr
  | false=>rw [hx] at h;exact Ro _ (gM h)
def eJ{env:Env}{x:Str}:∀ {names:List (Str × NameKind)},
  (names.map λ (n,k)=>if (k == NameKind.free && env.scope.kind == .function && env.kindOf n == some .cell) then (n,NameKind.cell) else (n,k)).lookup x
   = (names.lookup x).map λ k=>if (k == NameKind.free && env.scope.kind == .function && env.kindOf x == some .cell) then NameKind.cell else k
 | []=>rfl
 | (n,k)::r=>by
  have ih:=@eJ env x r
  show List.lookup x ((if (k == NameKind.free && env.scope.kind == .function && env.kindOf n == some .cell)=true then (n,NameKind.cell) else (n,k))::_)=_
  cases hx:x == n with
  | true=>
   have e:x=n:=by simpa using hx
   subst e
   by_cases hc:(k == NameKind.free && env.scope.kind == .function && env.kindOf x == some .cell)=true
   ·rw [RP hc];simp only [Tu,UN,TQ];rw [RP hc]
   ·rw [RH hc];simp only [Tu,UN,TQ];rw [RH hc]
  | false=>
   by_cases hc:(k == NameKind.free && env.scope.kind == .function && env.kindOf n == some .cell)=true
   ·rw [RP hc];simp only [Tu,hx];exact ih
   ·rw [RH hc];simp only [Tu,hx];exact ih
abbrev cCx(X:Cx)(scope:Scope)(N':List Str)(C:Addr)(s₀:Shared)(H₀:Hp)(ex:List Addr)(pn:List (Addr × Obj)):Cx:=
 { X with N:=N',s₀:=s₀,H₀:=H₀,env:=compEnvC scope (pA X.env.cells scope.names []) C X.env,outer:=X.stack,stack:=X.stack,ex:=ex,fn:=λ _=>false,pn:=pn,xe:=λ _ _=>False }
def PTs(Y:Cx)(ifs:List Expr)(t:TT):Prop:=
 ∀ (pins:List (Addr × Obj)) (s:Shared) (σ:St) (H:Hp) (Q:Bool->Hp->Prop),Inv Y pins σ H s->t σ H Q →
  wpAny (model Y.prog Y.w) Y.A (forIn ifs true λ c r=>if r=true then do let ok ←isTrue c Y.env (eval c Y.env);pure (ForInStep.yield ok) else pure (ForInStep.yield r)) (TP Y pins σ Q) Y.xe s
def PF:TT:=λ _ H Q=>Q true H
def aG{Y:Cx}:PTs Y [] PF:=λ _ _ _ H _ I h=>Ri ⟨H,I,h⟩
def nF{Y:Cx}{c:Expr}{t:TT}(h:PT Y c t):PTs Y [c] t:=λ pins s σ H Q I hw=>PySem.wpAny_tests_one (h pins s σ H Q I hw)
def HOk.but{P:Program}{w:World}{H:Hp}{h h':Heap}{C:Addr}(ok:HOk P w H h)(hn:H C=none)(hs:Heap.SameBut C h h'):HOk P w H h':=λ b ob e=>by
 refine(ok b ob e).stay (λ c w' hc q=>(hs.2 c ?_).trans q) (λ _ q=>q) λ _ _ q=>q;rintro rfl
 rcases hc with rfl|hc
 ·rw [hn] at e;cases e
 ·rw [hn] at hc;cases hc
def Un.but{fs ex:List Addr}{H H':Hp}{h h1 h2:Heap}{C:Addr}(u:Un fs ex H H' h h1)(hs:Heap.SameBut C h1 h2)(hC:∀ b o,h.get? b=some o->b ≠ C):Un fs ex H H' h h2 where
 keep:=λ b o e n hb hx=>(hs.2 b (hC b o e)).trans (u.keep b o e n hb hx)
 slot:=λ b o e n hb hx=>by
  obtain⟨sl,q⟩:=u.slot b o e n hb hx;exact⟨sl,(hs.2 b (hC b o e)).trans q⟩
 free:=u.free
 there:=λ b o e hx=>by
  obtain⟨o',q⟩:=u.there b o e hx;exact⟨o',(hs.2 b (hC b o e)).trans q⟩
 tups:=u.tups
 frzs:=u.frzs
 tbls:=u.tbls
section
variable {X:Cx}
def FG(k:Nat)(wi:TI)(g:TG)(tt:TT)(te:TE):TE:=λ σ H Q=>wi σ H λ J H1=>∀ D,H1 D=none->∃ W:Nat->Nat->List V->Hp->Prop,(∃ m,W 0 m [] (upd H1 D (.lst [])))/\∀ i m ys H,W i m ys H →
 (J.stop i H/\Q (.ref D) H)\/(J.go i H/\∃ N:List V->Hp->Prop,(∀ aS H',N aS H'->∃ m',m' < m/\W (i+1) m' aS H') /\
  ∀ x H',J.yld i H x H'->g x (List.replicate k none++σ) H' λ σ2 H2=>(∃ vs:St,vs.length=k/\σ2=vs++σ)/\tt σ2 H2 λ b H3=>if b=true then te σ2 H3 λ y H4=>H4 D=some (.lst ys)/\ys.length < sizeLine/\N (ys++[y]) (upd H4 D (.lst (ys++[y]))) else N ys H3)
def Bt{Y:Cx}{tg elt iter:Expr}{ifs:List Expr}{scope:Scope}{pos:Pos}{it D:Addr}{g:TG}{tt:TT}{te:TE}{J:It}{fp:List Addr}{tn:Nat->Heap->Prop}{k:Nat}{σ:St}{Q:VK}
  (hc:Y.calm=true) (hx:Y.xe=λ _ _=>False) (hg:PG Y tg g) (ht:PTs Y ifs tt) (he:PE Y elt te) (T:BS Y.prog Y.w Y.K tg J fp it tn) (hf:∀ H:Hp,(∀ b∈fp,H b=none)->∀ b∈fp,rS Y [] H b)
  (W:Nat->Nat->List V->Hp->Prop)
  (turn:∀ i m ys H,W i m ys H->(J.stop i H/\Q (.ref D) H)\/(J.go i H/\∃ N:List V->Hp->Prop,(∀ aS H',N aS H'->∃ m',m' < m/\W (i+1) m' aS H') /\
   ∀ x H',J.yld i H x H'->g x (List.replicate k none++σ) H' λ σ2 H2=>(∃ vs:St,vs.length=k/\σ2=vs++σ)/\tt σ2 H2 λ b H3=>if b=true then te σ2 H3 λ y H4=>H4 D=some (.lst ys)/\ys.length < sizeLine/\N (ys++[y]) (upd H4 D (.lst (ys++[y]))) else N ys H3))
  (n:Nat) (s:Shared) (h:∃ i ys H,Inv Y [] (List.replicate k none++σ) H s/\tn i s.heap/\(∀ b∈fp,H b=none)/\W i n ys H) :
  codeAny (model Y.prog Y.w) Y.A (.compLoop (.ListComp elt [⟨tg,iter,ifs,0⟩] scope pos) 0 (.ref it) (.ref D) Y.env) (λ r s'=>r=.ok .next/\∃ H',Inv Y [] (List.replicate k none++σ) H' s'/\Q (.ref D) H') s:=by
 refine codeAny_loop rfl (λ n s=>∃ i ys H,Inv Y [] (List.replicate k none++σ) H s/\tn i s.heap/\(∀ b∈fp,H b=none)/\W i n ys H) ?_ n h;rintro n s3 ⟨i,ys,H3,I3,a3,a4,w3⟩
 show wpAny _ Y.A ((compTurn (.ListComp elt [⟨tg,iter,ifs,0⟩] scope pos) 0 (.ref it) (.ref D) Y.env).onRaise (λ x=>do noteFrame x Y.env;theTreesLotGoes x)) _ _ s3
 refine PySem.wpAny_noted ?_;rw [PySem.compTurn_list]
 have no:∀ {α:Type} {m:Sem α} {P:α->Shared->Prop} {E:Value->Shared->Prop} {s:Shared},wpAny (model Y.prog Y.w) Y.A m P Y.xe s->wpAny (model Y.prog Y.w) Y.A m P E s:=λ {α m P E s} h=>
  UT h (λ _ _ q=>q) λ _ _ q=>by rw [hx] at q;exact q.elim
 refine My (VN (My ?_))
 rcases turn i n ys H3 w3 with ⟨stop,qn⟩|⟨go,N,hN,step⟩
 ·refine thn (T.done Y rfl rfl rfl hc i [] s3 (List.replicate k none++σ) H3 _ I3 (hf H3 a4) a3 stop) λ r s4 ⟨hr,I4⟩=>?_;subst hr;exact Ri ⟨rfl,H3,I4,qn⟩
 ·refine thn (T.item Y rfl rfl rfl hc i [] s3 (List.replicate k none++σ) H3 _ I3 (hf H3 a4) a3 go) λ r s4 ⟨u,hr,h4⟩=>?_;subst hr;refine My (thn h4 λ _ s5 ⟨x,H5,I5,r5,y5,aX,a6⟩=>?_);have a7:=I5.pinned (hf H5 a6) (T.obj _ _ aX);refine My (no (thn (hg _ s5 (List.replicate k none++σ) H5 x u _ a7 r5 (step x H5 y5)) λ _ s6 ⟨σ6,H6,I6,⟨vs,a5,e6⟩,q6⟩=>?_));subst e6
  have forget:∀ {pins:List (Addr × Obj)} {H:Hp} {s:Shared},Inv Y pins (vs++σ) H s->Inv Y pins (List.replicate k none++σ) H s:=λ {pins H s} I=>I.weak (by simp [a5]) λ i v e=>by
   by_cases hi:i < k
   ·rw [R8 (by simpa using hi)] at e;simp [UK,hi] at e
   ·rw [R1 (by simpa using VE hi)] at e;rw [R1 (by omega)]
    simpa [a5] using e
  refine My (no (thn (ht _ s6 (vs++σ) H6 _ I6 q6) λ b s7 ⟨H7,I7,q7⟩=>?_))
  have again:∀ {H8:Hp} {s8:Shared} {aS:List V},Inv Y ([]++pO fp s5.heap) (vs++σ) H8 s8->N aS H8->∃ m,m < n/\∃ i ys H,Inv Y [] (List.replicate k none++σ) H s8/\tn i s8.heap/\(∀ b∈fp,H b=none)/\W i m ys H:=λ {H8 s8 aS} I8 n8=>by
   obtain⟨m',hm,w8⟩:=hN aS H8 n8;refine⟨m',hm,i+1,aS,H8,forget I8.unpinned,T.keep _ _ _ aX λ b hb o e=>(I8.pin (b,o) (RG _ (RG _ (gI hb e)))).1,λ b hb=>?_,w8⟩;obtain⟨o,e,d⟩:=T.obj _ _ aX b hb;exact(I8.pin (b,o) (RG _ (RG _ (gI hb e)))).2.1
  cases b with
  | false=>
   rw [RH Rw] at q7;exact Ri ⟨rfl,again I7 q7⟩
  | true=>
   rw [RP rfl] at q7;refine My (My (no (thn (he _ s7 (vs++σ) H7 _ I7 q7) λ y s8 ⟨y',H8,I8,ry,q8,l8,n8⟩=>?_)));exact My (no (thn (dD _ s8 (vs++σ) H8 (.ref D) [y'] (.ref D) [y] (λ _ H'=>N (ys++[y']) H') I8 rfl (.cons ry .nil) ⟨D,ys,y',rfl,rfl,q8,l8,n8⟩) λ _ s9 ⟨_,H9,I9,_,q9⟩=>Ri (Ri ⟨rfl,again I9 q9⟩)))
structure kg(X:Cx)(scope:Scope)(N':List Str)(k:Nat):Prop where
 cell:∀ y∈scope.names,y.2 ≠ .cell
 kind:scope.kind=.function
 names:∀ y∈scope.names,y.2=.local->scope.names.lookup y.1=some .local
 free:∀ y∈scope.names,y.2=.free->X.env.scope.names.lookup y.1=some .cell
 len:N'.length=k+X.N.length
 sub:∀ i x,N'[k+i]? = some x->scope.names.lookup x=some .free->X.N[i]? = some x
 loc:∀ i x,N'[k+i]? = some x->scope.names.lookup x ≠ some .local
def kg.cells{scope:Scope}{N':List Str}{k:Nat}{pins:List (Addr × Obj)}{σ:St}{H:Hp}{s:Shared}(c:kg X scope N' k)(I:Inv X pins σ H s):∀ y∈scope.names,y.2=.free->∃ a,X.env.cells.lookup y.1=some a:=λ y hy e=>
 I.ok.has y.1 (.inl (c.free y hy e))
def Ej{scope:Scope}{N':List Str}{k:Nat}{pins:List (Addr × Obj)}{σ:St}{H:Hp}{s s₄:Shared}{fp:List Addr}{m:Str->Option Value}(c:kg X scope N' k)(hc:X.calm=true)(I:Inv X pins σ H s)
  (hf:∀ b∈fp,rS X pins H b) (a6:∀ b∈fp,b < s.heap.objs.size) (hb:∀ b∈fp,X.base.get? b=none) (a7:s₄.heap.Ns s.heap.objs.size m) (hk:∀ b o,s.heap.get? b=some o->s₄.heap.get? b=some o) (ho:s₄.os=s.os) (hg:s₄.gens=s.gens) :
  Inv (cCx X scope N' s.heap.objs.size s H fp (X.pn++pins)) [] (List.replicate k none++σ) H s₄:=by
 have a4:=c.cells I
 have sub:∀ x a,(pA X.env.cells scope.names []).lookup x=some a->X.env.cells.lookup x=some a:=λ x a e=>by
  rcases oF a4 e with q|q
  ·simp at q
  ·exact q
 have kinds:∀ x,(compEnvC scope (pA X.env.cells scope.names []) s.heap.objs.size X.env).kindOf x=some .cell\/(compEnvC scope (pA X.env.cells scope.names []) s.heap.objs.size X.env).kindOf x=some .free->scope.names.lookup x=some .free:=λ x hx=>by
  have e:(compEnvC scope (pA X.env.cells scope.names []) s.heap.objs.size X.env).kindOf x=(scope.names.lookup x).map λ k=>if (k == NameKind.free && X.env.scope.kind == .function && X.env.kindOf x == some .cell) then NameKind.cell else k:=eJ
  rw [e] at hx
  cases q:scope.names.lookup x with
  | none=>rw [q] at hx;simp at hx
  | some j=>
   rw [q] at hx;have hj:j ≠ .cell:=c.cell (x,j) (gM q)
   cases j<;>simp_all
 have fresh:∀ b,s.heap.objs.size<=b->s.heap.get? b=none:=λ b hb=>Vt hb;have ne:∀ b o,s.heap.get? b=some o->b ≠ s.heap.objs.size:=λ b o e=>RC (Rk e)
 have a8:∀ x a,X.env.cells.lookup x=some a->a < s.heap.objs.size:=λ x a e=>by
  obtain⟨v,o,h1,_⟩:=I.cell x a e;exact Rk h1
 refine⟨⟨I.ok.mod,c.kind,I.ok.glob,I.ok.blt,Rl _,λ x y a e1 e2=>I.ok.inj x y a (sub x a e1) (sub y a e2),λ x hx=>jW a4 (kinds x hx),(λ _ _ z=>nomatch z),I.ok.hd,I.ok.frames,.inl rfl,λ b a3=>⟨RC (a6 b a3),λ x a e=>(hf b a3).2.2.2.2.1 x a (sub x a e)⟩,
   I.bs,Sj I.ok.bsz I.sz,(λ b o e a3=>by rw [hb b a3] at e;cases e),λ b a3 hz=>?_,I.stack,I.stkFree⟩,ho,by rw [hg];exact I.bare,Un.kept hk,⟨m,a7,λ i x v e1 e2 e3=>?_⟩,λ x a e=>?_,I.hok.fresh (Rl _),λ x a e=>I.freeC x a (sub x a e),λ p hp=>?_,I.hok.kept hk,?_⟩
 ·rcases Rz.mp (I.stkSub b hz) with z|z
  ·exact(hf b a3).2.1 z
  ·exact(hf b a3).2.2.1 z
 ·have hi:k<=i:=by
   refine VE λ hi=>?_;rw [R8 (by simpa using hi)] at e2;simp [UK,hi] at e2
  obtain⟨j,rfl⟩:∃ j,i=k+j:=⟨i - k,by omega⟩;rw [R1 (by simp)] at e2;have a9:σ[j]? = some (some v):=by simpa using e2
  have e:(relabel scope X.env).names.lookup x=(scope.names.lookup x).map λ k=>if (k == NameKind.free && X.env.scope.kind == .function && X.env.kindOf x == some .cell) then NameKind.cell else k:=eJ
  have aS:scope.names.lookup x=some .free:=by
   cases q:scope.names.lookup x with
   | none=>
    rcases e3 with z|z|z
    all_goals (have z':(relabel scope X.env).names.lookup x=some _:=z;rw [e,q] at z';simp at z')
   | some j'=>
    have h1:j' ≠ .cell:=c.cell (x,j') (gM q);have h2:j' ≠ .local:=λ z=>c.loc j x e1 (by rw [q,z])
    rcases e3 with z|z|z
    all_goals (have z':(relabel scope X.env).names.lookup x=some _:=z;rw [e,q] at z';cases j'<;>simp_all)
  have hX:=c.sub j x e1 aS;have aX:=c.free (x,.free) (gM aS) rfl;obtain⟨m0,bx,bb⟩:=I.loc;obtain⟨u,r,l⟩:=bb j x v hX a9 (.inr (.inl aX));refine⟨u,r,?_⟩
  rcases l with ⟨z,_⟩|⟨_,a,ea,hz⟩
  ·have z':X.env.scope.names.lookup x=some .local:=z;rw [aX] at z';cases z'
  ·obtain⟨a',a5⟩:=jW (acc:=[]) a4 aS;have e4:=sub x a' a5;rw [ea] at e4;cases e4;refine .inr ⟨.inl ?_,a,a5,?_⟩
   ·show (relabel scope X.env).names.lookup x=some .cell
    rw [e,aS];have k1:(X.env.scope.kind == .function)=true:=by rw [I.ok.kind];rfl
    have k2:(X.env.kindOf x == some .cell)=true:=by
     have:X.env.kindOf x=some .cell:=aX;rw [this];rfl
    simp [k1,k2]
   ·obtain⟨o,h1,h2⟩:=hz;exact⟨o,hk _ _ h1,h2⟩
 ·obtain⟨v,o,h1,h2⟩:=I.cell x a (sub x a e);exact⟨v,o,hk _ _ h1,h2⟩
 ·have bt:p∈X.pn++pins:=by simpa using hp
  obtain⟨e,n,nl,nf,d⟩:=I.pin p bt;refine⟨hk _ _ e,n,ne _ _ e,λ z=>?_,d⟩
  rcases Rz.mp (I.stkSub _ z) with z|z
  ·exact nl z
  ·exact nf z
 ·show (List.replicate k none++σ).length=N'.length
  rw [c.len,RI,S3,I.len]
def mU{elt iter tg:Expr}{ifs:List Expr}{scope:Scope}{pos:Pos}{g:TG}{tt:TT}{te:TE}{N':List Str}{k:Nat}{it:Addr}{J:It}{fp:List Addr}{tn:Nat->Heap->Prop}{pins:List (Addr × Obj)}{σ:St}{H:Hp}{s:Shared}{Q:VK}{RR:Value->Addr->Result->Shared->Prop}{E:Value->Shared->Prop}
  (c:kg X scope N' k) (hc:X.calm=true) (I:Inv X pins σ H s) (T:BS X.prog X.w X.K tg J fp it tn) (st:tn 0 s.heap) (hf:∀ b∈fp,rS X pins H b)
  (hg:∀ C s₀ H₀ ex pn,PG (cCx X scope N' C s₀ H₀ ex pn) tg g) (ht:∀ C s₀ H₀ ex pn,PTs (cCx X scope N' C s₀ H₀ ex pn) ifs tt) (he:∀ C s₀ H₀ ex pn,PE (cCx X scope N' C s₀ H₀ ex pn) elt te)
  (h:∀ D,H D=none->∃ W:Nat->Nat->List V->Hp->Prop,(∃ m,W 0 m [] (upd H D (.lst [])))/\∀ i m ys H,W i m ys H →
   (J.stop i H/\Q (.ref D) H)\/(J.go i H/\∃ N:List V->Hp->Prop,(∀ a5 H',N a5 H'->∃ m',m' < m/\W (i+1) m' a5 H') /\
    ∀ x H',J.yld i H x H'->g x (List.replicate k none++σ) H' λ σ2 H2=>(∃ vs:St,vs.length=k/\σ2=vs++σ)/\tt σ2 H2 λ b H3=>if b=true then te σ2 H3 λ y H4=>H4 D=some (.lst ys)/\ys.length < sizeLine/\N (ys++[y]) (upd H4 D (.lst (ys++[y]))) else N ys H3))
  (fin:∀ D C s' H' m,s'.heap.Ns C m->C ≠ X.env.locals->(∀ x a,X.env.cells.lookup x=some a->a ≠ C)->(H' C=none/\X.s₀.heap.objs.size<=C/\∀ p∈X.pn++pins,p.1 ≠ C)->(∀ h',Heap.SameBut C s'.heap h'->Inv X pins σ H' { s' with heap:=h' })->Q (.ref D) H'->RR (.ref D) C (.ok .next) s') :
  wpAny (model X.prog X.w) X.A (newList []) (λ acc s₃=>wpAny (model X.prog X.w) X.A (newFunctionEnv scope X.env.globals (pA X.env.cells scope.names []) [] X.env.qual none .none (some X.env)) (λ a3 s₄=>
   codeAny (model X.prog X.w) X.A (.compStart (.ListComp elt [⟨tg,iter,ifs,0⟩] scope pos) 0 (.ref it) acc { a3 with scope:=relabel scope X.env }) (RR acc a3.locals) s₄) E s₃) E s:=by
 refine wpAny_newObj_type (wpAny_newFunctionEnv c.cell (by intro y hy;simp at hy) (λ h₁ aS aX=>?_) c.kind);dsimp only at aS aX ⊢;have I3:Inv X pins σ (upd H s.heap.objs.size (.lst [])) { s with heap:=s.heap.push { cls:=.type "list",data:=.seq ([]:List Value).toArray },toks:=s.toks }:=I.lnew (ys:=[]) (its:=[]) .nil (Nat.zero_le _);generalize hH2:s.heap.push { cls:=.type "list",dict:=none,data:=.seq ([]:List Value).toArray }=hp at aS aX I3 ⊢;have a6:∀ b o,s.heap.get? b=some o->hp.get? b=some o:=λ b o e=>by rw [←hH2];exact Heap.get?_push_of_some _ e
 have a7:H s.heap.objs.size=none:=I.hok.fresh (Rl _);have kp:∀ b o,hp.get? b=some o->h₁.get? b=some o:=λ b o e=>aX.extBut b o (RC (Rk e)) (Rc _ e)
 have stk:∀ b∈fp,s.heap.get? b ≠ none:=λ b hb z=>by
  obtain⟨o,e,_⟩:=T.obj _ _ st b hb;rw [z] at e;cases e
 have flt:∀ b∈fp,b < s.heap.objs.size:=λ b hb=>by
  obtain⟨o,e,_⟩:=T.obj _ _ st b hb;exact Rk e
 have bt:∀ b∈fp,b ≠ s.heap.objs.size:=λ b hb=>RC (flt b hb)
 have a8:∀ b∈fp,rS X pins (upd H s.heap.objs.size (.lst [])) b:=λ b hb=>by
  obtain⟨a1,a2⟩:=hf b hb;exact⟨by rw [ah (bt b hb)];exact a1,a2⟩
 have bx:∀ b∈fp,X.base.get? b=none:=λ b hb=>by
  cases e:X.base.get? b with
  | none=>rfl
  | some o=>
   rcases (hf b hb).2.2.2.1 with z|z
   ·exact absurd z (I.ok.noex b o e)
   ·have:=Rk (I.ok.bs b o e).1;exact absurd (RD this z) (R9 _)
 have hsz:s.heap.objs.size < hp.objs.size:=by rw [←hH2,RT];exact Ss _
 have IY:=Ej (s₄:={ s with heap:=h₁,toks:=s.toks+([]:List (Str × Value)).length }) (fp:=fp) c hc I3 a8 (λ b hb=>Ux (flt b hb) hsz) bx aS kp rfl rfl;obtain⟨W,⟨m0,w0⟩,turn⟩:=h s.heap.objs.size a7
 have run:=Bt (Y:=cCx X scope N' hp.objs.size { s with heap:=hp,toks:=s.toks } (upd H s.heap.objs.size (.lst [])) fp (X.pn++pins)) (tg:=tg) (elt:=elt) (iter:=iter) (ifs:=ifs) (scope:=scope) (pos:=pos) (it:=it) (D:=s.heap.objs.size) (k:=k) (σ:=σ) (Q:=Q)
  hc rfl (hg _ _ _ _ _) (ht _ _ _ _ _) (he _ _ _ _ _) T (λ H' hn b hb=>⟨hn b hb,RC (Ux (flt b hb) hsz),λ z=>(IY.ok.exfs b hb) z,.inl hb,λ x a e=>(IY.ok.exf b hb).2 x a e,λ p hp=>by
   have a4:p∈X.pn++pins:=by simpa using hp
   exact(hf b hb).2.2.2.2.2 p a4⟩) W turn m0
 have a9:tn 0 h₁:=T.keep _ _ _ st λ b hb o e=>kp b o (a6 b o e);have go:=run { s with heap:=h₁,toks:=s.toks+([]:List (Str × Value)).length } ⟨0,[],_,IY,a9,λ b hb=>(a8 b hb).1,w0⟩
 have out:∀ r s',(r=Except.ok Flow.next/\∃ H',Inv (cCx X scope N' hp.objs.size { s with heap:=hp,toks:=s.toks } (upd H s.heap.objs.size (.lst [])) fp (X.pn++pins)) [] (List.replicate k none++σ) H' s'/\Q (.ref s.heap.objs.size) H')->RR (.ref s.heap.objs.size) hp.objs.size r s':=by
  rintro r s' ⟨rfl,H',J',q⟩;obtain⟨m,hn,_⟩:=J'.loc;have hC:hp.objs.size ≠ X.env.locals:=Sd (RD I.lt (Ue hsz));refine fin _ _ s' H' m hn hC (λ x a e=>?_) ⟨J'.free,Sj I.sz (Ue hsz),λ p a4=>RC (Ux (Rk (I.pin p a4).1) hsz)⟩ (λ h' bb=>?_) q
  ·obtain⟨v,o,h1,_⟩:=I.cell x a e;exact RC (Ux (Rk h1) hsz)
  ·refine I.call' (ch:=fp) ?_ ?_ ?_ J'.bare λ b hb=>⟨(hf b hb).2.2.2.1,(hf b hb).2.1,(hf b hb).2.2.2.2.1,(hf b hb).2.2.2.2.2⟩
   ·exact J'.os
   ·have u1:Un (frs X.stack) fp H (upd H s.heap.objs.size (.lst [])) s.heap hp:=Un.laid a6 (Rl _) a7;exact(u1.trans J'.base).but bb λ b o e=>RC (Ux (Rk e) hsz)
   ·exact J'.hok.but J'.free bb
 exact codeAny_compStart_list (UM go out) (T.self _ 0 _ _ _ a9 (UM go out))
def Hq{elt iter tg:Expr}{ifs:List Expr}{scope:Scope}{pos:Pos}{wi:TI}{g:TG}{tt:TT}{te:TE}{N':List Str}{k:Nat}
  (c:kg X scope N' k) (hc:X.calm=true) (hi:PI X tg iter wi)
  (hg:∀ C s₀ H₀ ex pn,PG (cCx X scope N' C s₀ H₀ ex pn) tg g) (ht:∀ C s₀ H₀ ex pn,PTs (cCx X scope N' C s₀ H₀ ex pn) ifs tt) (he:∀ C s₀ H₀ ex pn,PE (cCx X scope N' C s₀ H₀ ex pn) elt te)
  (hs:∀ x,foldedSetIterable iter X.env x=pure x:=by intro _;rfl):PE X (.ListComp elt [⟨tg,iter,ifs,0⟩] scope pos) (FG k wi g tt te):=by
 intro pins s σ H Q I h;rw [PySem.eval_ListComp];refine Vv (use:=none) rfl hs (iR (c.cells I)) c.kind c.names (thn (hi pins s σ H _ I h) λ v s1 h1=>thn h1 λ a3 s2 h2=>?_);obtain⟨it,fp,tn,J,H2,rfl,I2,T,aS,f2,hW⟩:=h2;refine mU (RR:=λ acc C=>PySem.compPost (model X.prog X.w) X.A X.xe none (EP X pins σ Q) acc C) c hc I2 T aS f2 hg ht he hW ?_;intro D C s' H' m hn _ _ _ hI q;exact⟨m,hn,λ h' aX=>⟨.ref D,H',hI h' aX,rfl,q⟩⟩
def J5(i:Nat)(te:TE):TS:=λ D σ H=>te σ H λ x H1=>D.nx (σ.set i (some x)) H1
def Hc{elt iter tg:Expr}{ifs:List Expr}{scope:Scope}{pos aS py:Pos}{wi:TI}{g:TG}{tt:TT}{te:TE}{N':List Str}{k i:Nat}{y:Str}
  (hN:X.N.Nodup) (a5:X.N[i]? = some y) (hy:Loc X.env.scope y)
  (c:kg X scope N' k) (hc:X.calm=true) (hi:PI X tg iter wi)
  (hg:∀ C s₀ H₀ ex pn,PG (cCx X scope N' C s₀ H₀ ex pn) tg g) (ht:∀ C s₀ H₀ ex pn,PTs (cCx X scope N' C s₀ H₀ ex pn) ifs tt) (he:∀ C s₀ H₀ ex pn,PE (cCx X scope N' C s₀ H₀ ex pn) elt te)
  (a6:swapsWith (.ListComp elt [⟨tg,iter,ifs,0⟩] scope pos) (some (.Name y py)) aS.line X.env=pure true:=by rfl)
  (hs:∀ x,foldedSetIterable iter X.env x=pure x:=by intro _;rfl) (hf:X.fn y=true\/X.env.scope.names.lookup y=some .local:=by first|exact .inl rfl|exact .inr rfl|assumption) :
  PS X (.Assign [.Name y py] (.ListComp elt [⟨tg,iter,ifs,0⟩] scope pos) aS) (J5 i (FG k wi g tt te)):=by
 intro pins s σ H D I h;rw [PySem.exec_Assign_Name_used _ _ _ _ a6];refine My (VN (My ?_))
 show wpAny _ X.A (do let _ ←comprehension (.ListComp elt [⟨tg,iter,ifs,0⟩] scope pos) scope X.env _ (newList []) false (eval iter X.env) (some (assign (.Name y py) X.env))) _ _ s
 refine My (thn (Vv (use:=some (assign (.Name y py) X.env)) (Q:=λ _ s'=>SP X pins D .next s') rfl hs (iR (c.cells I)) c.kind c.names (thn (hi pins s σ H _ I h) λ v s1 h1=>thn h1 λ bx s2 h2=>?_)) λ _ s' hq=>Ri (Ri hq));obtain⟨it,fp,tn,J,H2,rfl,I2,T,a7,f2,hW⟩:=h2;refine mU (Q:=λ x H1=>D.nx (σ.set i (some x)) H1) (RR:=λ acc C=>PySem.compPost (model X.prog X.w) X.A X.xe (some (assign (.Name y py) X.env)) (λ _ s'=>SP X pins D .next s') acc C) c hc I2 T a7 f2 hg ht he hW ?_;intro D' C s' H' m hn a3 a4 aX hI q
 show wpAny _ X.A (assign (.Name y py) X.env (.ref D')) _ _ s'
 have I':Inv X pins σ H' s':=hI s'.heap (Heap.SameBut.refl _ _);refine wpAny_assign_Name (p7 I' hN a5 hy (show bD (.ref D') (.ref D') from rfl) (λ a8 a9 ⟨a,sb,ha⟩=>?_) hf)
 have bb:C ≠ a:=by
  rcases ha with rfl|ha
  ·exact a3
  ·exact λ z=>a4 _ _ ha z.symm
 refine⟨m,hn.sameBut sb bb,λ h' bt=>⟨_,H',?_,q⟩⟩;exact a9.turned (t':=a8.toks) (λ b o hb e=>(bt.2 b hb).trans e) aX.1 a3 (.inr aX.2.1) a4 aX.2.2
end
section
variable {M:Model}{A:Around}{E:Value->Shared->Prop}{s:Shared}
end
section
variable {X:Cx}
set_option genInjectivity false in
def Lf(K:W.Frag)(C:Addr)(z:Option Value)(bmB:List Value)(newId:String):Bool:=match K.lookup C with
 | some ⟨.type "type",_,.cls dat,slt⟩=>(match dat.mro,slt.toList with
  | .ref C'::up,[_,_,_,_,some (.builtin n),_]=>C' == C && n == newId && !dat.hasDel && W.tailIn K bmB up && W.nsOkIn K dat.ns && W.nsIn K dat.ns "__init__" == some z
  | _,_=>false)
 | _=>false
end
structure NB(K:W.Frag)(x qual:Str)(st:Stmt)(f:Addr)(fd:FuncData):Prop where
 ex:∃ (oc:Value) (od:Option Addr) (dV kV doc pm:Value) (an:Option Addr) (cdv ct:Value) (osl:Array (Option Value)),
  fd=W.fnOf x qual (eA st) (c9 st) (aa st) dV kV doc pm an cdv ct/\K.lookup f=some ⟨oc,od,.func fd,osl⟩/\W.codeIn K cdv qual=true
 kp:W.keepIn K (.ref f)=true
section
variable {P:Program}{w:World}{K:PySem.W.Frag}{mg:Str->Option Value}{base:Heap}
def NB.ok{CX:CXT}{x qual:Str}{st:Stmt}{f:Addr}{fd:FuncData}{N ps:List Str}{k:Nat}{sp:Sp}(F:NB K x qual st f fd)(S:ag N ps (aa st))(len:∀ vs H Q E,sp vs H Q E->vs.length=ps.length)
  (aS:∀ (cdv:Value) (A:Around) (outer:List Env) (s:Shared) (H:Hp) (vs:List V) (Q:VK) (E:XK),jE k (A.deeper (envOfC qual (aa st) s.heap.objs.size f cdv))->sp vs H Q E →
   ∃ t,PSs (EZ CX P w K mg base N qual (aa st) f cdv A outer s H E) (c9 st) t/\t { nx:=λ _ H'=>Q .non H',rt:=Q } (az N vs) H):bh P w K mg base CX (k+1) f fd ps sp:=by
 obtain⟨oc,od,dV,kV,doc,pm,an,cdv,ct,osl,rfl,lk,aX⟩:=F.ex;exact KI lk aX S len λ A outer s H vs Q E hr a3=>aS cdv A outer s H vs Q E hr a3
def Jy{x qual:Str}{st:Stmt}{f:Addr}{oc:Value}{od an:Option Addr}{osl:Array (Option Value)}{dV kV doc pm cdv ct:Value}(l:K.lookup f=some ⟨oc,od,.func (W.fnOf x qual (eA st) (c9 st) (aa st) dV kV doc pm an cdv ct),osl⟩)
  (c:W.codeIn K cdv qual=true) (k:W.keepIn K (.ref f)=true):NB K x qual st f (W.fnOf x qual (eA st) (c9 st) (aa st) dV kV doc pm an cdv ct):=⟨⟨oc,od,dV,kV,doc,pm,an,cdv,ct,osl,rfl,l,c⟩,k⟩
end
open PySem.W
section
variable {prog:Program}{w:World}{A:Around}{E:Value->Shared->Prop}{s:Shared}{K:PySem.W.Frag}{x C:Addr}{ox:Obj}{od:Option Obj}{name:Str}
end
structure Ca(X:Cx)(pins:List (Addr × Obj))(e:Addr):Prop where
 s0:X.s₀.heap.get? e=none
 loc:e ≠ X.env.locals
 cel:∀ x c,X.env.cells.lookup x=some c->c ≠ e
 fs:e ∉ X.fs
 pin:∀ p∈X.pn++pins,p.1 ≠ e
section
variable {X:Cx}
end
def yg(K:Frag)(C fI:Addr)(bmB:List Value)(newId:String):Bool:=Lf K C (some (.ref fI)) bmB newId
section
variable {prog:Program}{w:World}{A:Around}{R:Result->Shared->Prop}{h:Heap}{g:Array GenState}{d:Drawn}{t:Nat}{os:OsState}{K:Frag}
variable {nm q:Str}{C N fI:Addr}{bs bm bmB:List Value}{hdct:Bool}{sn:List Str}{sub:List Value}{ab:Bool}{col:Option Bool}{dd:Option Addr}{k0 k1 k2 k3 k5:Option Value}{B Bn newId nid initId inN:String}{bmN:List Value}
end
def uX:List Value->List Value
 | .ref _::r=>uX r
 | l=>l
def Hz(l:List Value):Bool:=uX l == [.type "ValueError",.type "Exception",.type "BaseException",.type "object"]
def sQ(K:Frag)(C:Addr):Bool:=(clsIn K C).any λ cd=>Hz cd.mro && cd.mro.contains (.type "object")
structure Nc(K:Frag)(C:Addr):Prop where
 ov:sQ K C=true
 sa:findIn K (.ref C) "__setattr__"=some (some (.builtin "object.__setattr__"))
 hd:hasDictIn K C=true
section
variable {prog:Program}{w:World}{A:Around}{E:Value->Shared->Prop}{K:Frag}{x C:Addr}{s:Shared}{name:Str}{v:Value}
end
section
variable {prog:Program}{w:World}{A:Around}{E:Value->Shared->Prop}{s:Shared}{K:PySem.W.Frag}{x C dx:Addr}{ox:Obj}{od:Option Obj}{name:Str}{mA:Str->Option Value}{u:Value}
end
section
variable {prog:Program}{w:World}{A:Around}{E:Value->Shared->Prop}{h:Heap}{g:Array GenState}{d:Drawn}{t:Nat}{os:OsState}{e a0:Addr}{dct:Option Addr}
variable {nm q:Str}{C N:Addr}{bs bm bmB:List Value}{hdct:Bool}{sn:List Str}{sub:List Value}{ab:Bool}{col:Option Bool}{dd:Option Addr}{k0 k1 k2 k3 k5:Option Value}{B newId nid initId:String}
end
structure QC(K:W.Frag)(C fI:Addr):Prop where
 ex:yg K C fI [.type "ValueError",.type "Exception",.type "BaseException",.type "object"] "ValueError.__new__"=true
 fn:typeIn K (.ref fI)=some (.type "function")
 st:Nc K C
section
variable {X:Cx}{pins:List (Addr × Obj)}{σ:St}{H:Hp}{s:Shared}
def Inv.adopt{a:Addr}{o:HO}(I:Inv X pins σ H s)(N:Ca X pins a)(hn:H a=none)(new:bW X.prog X.w (upd H a o) s.heap a o):Inv X pins σ (upd H a o) s:=by
 have ne:∀ {b:Addr} {u:HO},H b=some u->b ≠ a:=λ q z=>by rw [z,hn] at q;cases q
 refine⟨I.ok,I.os,I.bare,⟨I.base.keep,I.base.slot,λ b u q n hx=>?_,I.base.there,λ b xs q=>?_,λ b u v q=>?_,λ b ps q=>?_⟩,I.loc,I.cell,?_,λ x c q=>?_,λ p hp=>?_,λ b u q=>?_,I.len⟩
 ·rw [ah (λ z=>by rw [z,N.s0] at q;cases q)];exact I.base.free b u q n hx
 ·have z:=I.base.tups b xs q;rw [ah (ne z)];exact z
 ·have z:=I.base.frzs b u v q;rw [ah (ne z)];exact z
 ·obtain⟨m,z⟩:=I.base.tbls b ps q;exact⟨m,by rw [ah (ne z)];exact z⟩
 ·rw [ah (Ru N.loc)];exact I.free
 ·rw [ah (N.cel x c q)];exact I.freeC x c q
 ·obtain⟨a1,b1,c1,d1,f1⟩:=I.pin p hp;exact⟨a1,by rw [ah (N.pin p hp)];exact b1,c1,d1,f1⟩
 ·by_cases hb:b=a
  ·subst hb;rw [aq] at q;cases q;exact new
  ·rw [ah hb] at q;exact(I.hok b u q).stay (λ _ _ _ r=>r) (λ c r=>by rw [ah (ne r)];exact r) λ c xs r=>by rw [ah (ne r)];exact r
def Inv.newAt{a:Addr}(I:Inv X pins σ H s)(ha:s.heap.objs.size<=a):Ca X pins a where
 s0:=Vt (Sj I.sz ha)
 loc:=Sd (RD I.lt ha)
 cel:=λ x c e z=>by
  obtain⟨v,o,q,_⟩:=I.cell x c e;exact absurd (RD (Rk q) (by rw [z];exact ha)) (R9 _)
 fs:=I.nofs ha
 pin:=λ p hp z=>absurd (RD (Rk (I.pin p hp).1) (by rw [z];exact ha)) (R9 _)
structure PC(K:W.Frag)(B:Addr):Prop where
 sp:specialIn K (.ref B) "__getattribute__"=some (some (.builtin "type.__getattribute__"))
 rd:readsIn K B (.type "type")=true
 fc:findCls K (.ref B) (.type "type") "__init__"=some (.val (.builtin "ValueError.__init__"))
end
section
variable {X:Cx}{e o value:Expr}{ta tv:TE}{f:Str}{pos pos':Pos}
end
def del(H:Hp)(e:Addr):Hp:=λ b=>if b=e then none else H b
section
variable {X:Cx}
end
def Jx{a:Option V}{v:V}{σ:St}{H:Hp}{Q:St->Hp->Prop}:eY 0 v (a::σ) H Q=Q (some v::σ) H:=rfl
def Jw{a0:Option V}{a:Option V}{v:V}{σ:St}{H:Hp}{Q:St->Hp->Prop}:eY 1 v (a0::a::σ) H Q=Q (a0::some v::σ) H:=rfl
def Jv{a0 a1:Option V}{a:Option V}{v:V}{σ:St}{H:Hp}{Q:St->Hp->Prop}:eY 2 v (a0::a1::a::σ) H Q=Q (a0::a1::some v::σ) H:=rfl
def Ju{a0 a1 a2:Option V}{a:Option V}{v:V}{σ:St}{H:Hp}{Q:St->Hp->Prop}:eY 3 v (a0::a1::a2::a::σ) H Q=Q (a0::a1::a2::some v::σ) H:=rfl
def Jt{a0 a1 a2 a3:Option V}{a:Option V}{v:V}{σ:St}{H:Hp}{Q:St->Hp->Prop}:eY 4 v (a0::a1::a2::a3::a::σ) H Q=Q (a0::a1::a2::a3::some v::σ) H:=rfl
def Js{a0 a1 a2 a3 a4:Option V}{a:Option V}{v:V}{σ:St}{H:Hp}{Q:St->Hp->Prop}:eY 5 v (a0::a1::a2::a3::a4::a::σ) H Q=Q (a0::a1::a2::a3::a4::some v::σ) H:=rfl
def Jr{a0 a1 a2 a3 a4 a5:Option V}{a:Option V}{v:V}{σ:St}{H:Hp}{Q:St->Hp->Prop}:eY 6 v (a0::a1::a2::a3::a4::a5::a::σ) H Q=Q (a0::a1::a2::a3::a4::a5::some v::σ) H:=rfl
def Jq{a0 a1 a2 a3 a4 a5 a6:Option V}{a:Option V}{v:V}{σ:St}{H:Hp}{Q:St->Hp->Prop}:eY 7 v (a0::a1::a2::a3::a4::a5::a6::a::σ) H Q=Q (a0::a1::a2::a3::a4::a5::a6::some v::σ) H:=rfl
def Jp{a0 a1 a2 a3 a4 a5 a6 a7:Option V}{a:Option V}{v:V}{σ:St}{H:Hp}{Q:St->Hp->Prop}:eY 8 v (a0::a1::a2::a3::a4::a5::a6::a7::a::σ) H Q=Q (a0::a1::a2::a3::a4::a5::a6::a7::some v::σ) H:=rfl
def Jo{a0 a1 a2 a3 a4 a5 a6 a7 a8:Option V}{a:Option V}{v:V}{σ:St}{H:Hp}{Q:St->Hp->Prop}:eY 9 v (a0::a1::a2::a3::a4::a5::a6::a7::a8::a::σ) H Q=Q (a0::a1::a2::a3::a4::a5::a6::a7::a8::some v::σ) H:=rfl
def Eu{a0 a1 a2 a3 a4 a5 a6 a7 a8 a9:Option V}{a:Option V}{v:V}{σ:St}{H:Hp}{Q:St->Hp->Prop}:eY 10 v (a0::a1::a2::a3::a4::a5::a6::a7::a8::a9::a::σ) H Q=Q (a0::a1::a2::a3::a4::a5::a6::a7::a8::a9::some v::σ) H:=rfl
def Et{a0 a1 a2 a3 a4 a5 a6 a7 a8 a9 aS:Option V}{a:Option V}{v:V}{σ:St}{H:Hp}{Q:St->Hp->Prop}:eY 11 v (a0::a1::a2::a3::a4::a5::a6::a7::a8::a9::aS::a::σ) H Q=Q (a0::a1::a2::a3::a4::a5::a6::a7::a8::a9::aS::some v::σ) H:=rfl
def Es{a0 a1 a2 a3 a4 a5 a6 a7 a8 a9 aS aX:Option V}{a:Option V}{v:V}{σ:St}{H:Hp}{Q:St->Hp->Prop}:eY 12 v (a0::a1::a2::a3::a4::a5::a6::a7::a8::a9::aS::aX::a::σ) H Q=Q (a0::a1::a2::a3::a4::a5::a6::a7::a8::a9::aS::aX::some v::σ) H:=rfl
def Er{a0 a1 a2 a3 a4 a5 a6 a7 a8 a9 aS aX bb:Option V}{a:Option V}{v:V}{σ:St}{H:Hp}{Q:St->Hp->Prop}:eY 13 v (a0::a1::a2::a3::a4::a5::a6::a7::a8::a9::aS::aX::bb::a::σ) H Q=Q (a0::a1::a2::a3::a4::a5::a6::a7::a8::a9::aS::aX::bb::some v::σ) H:=rfl
def Ep{a0 a1 a2 a3 a4 a5 a6 a7 a8 a9 aS aX bb bt:Option V}{a:Option V}{v:V}{σ:St}{H:Hp}{Q:St->Hp->Prop}:eY 14 v (a0::a1::a2::a3::a4::a5::a6::a7::a8::a9::aS::aX::bb::bt::a::σ) H Q=Q (a0::a1::a2::a3::a4::a5::a6::a7::a8::a9::aS::aX::bb::bt::some v::σ) H:=rfl
def aH{α:Type}:Option α->(α->Prop)->Prop
 | some x,k=>k x
 | none,_=>False
def kM{α:Type}(x:α)(k:α->Prop):aH (some x) k=k x:=rfl
def ai{α:Type}{o:Option α}{k:α->Prop}(h:aH o k):∃ x,o=some x/\k x:=by
 cases o with
 | none=>exact h.elim
 | some x=>exact⟨x,rfl,h⟩
def Ni:HO->Option (List V)
 | .lst xs=>some xs
 | .tup xs=>some xs
 | .frz _ (.lst xs)=>some xs
 | _=>none
def NU:HO->Option (List V)
 | .lst xs=>some xs
 | _=>none
def NC:HO->Option (List V)
 | .tup xs=>some xs
 | _=>none
def cZ(H:Hp)(p:Addr):Option (List V):=(H p).bind Ni
def aA(H:Hp)(p:Addr):Option (List V):=(H p).bind NU
def jY(H:Hp)(p:Addr):Option (List V):=(H p).bind NC
def Cw(xs:List V):Ni (.lst xs)=some xs:=rfl
def Cv(xs:List V):Ni (.tup xs)=some xs:=rfl
def DF(xs:List V):NU (.lst xs)=some xs:=rfl
def Cs(xs:List V):NC (.tup xs)=some xs:=rfl
def xb{α β:Type}(x:α)(f:α->Option β):(some x).bind f=f x:=rfl
abbrev Ext(H H':Hp):Prop:=(∀ a,(H a).isSome=true->H' a=H a)/\∀ (K:PySem.W.Frag) a xs,SqL K H a xs->SqL K H' a xs
def JZ(r:R2)(x:V)(Q:VK):VK:=λ y H=>r x y H Q
def Fp(r:R2)(x y:V)(H:Hp)(Q:VK):(JZ r x Q y H)=(r x y H Q):=rfl
def kOp(r:R2)(tb:TE)(σ:St)(Q:VK):VK:=λ x H=>tb σ H (JZ r x Q)
def Pf(r:R2)(tb:TE)(σ:St)(Q:VK)(x:V)(H:Hp):(kOp r tb σ Q x H)=(tb σ H (JZ r x Q)):=rfl
def OU(r:R2)(ta tb:TE)(σ:St)(H:Hp)(Q:VK):(tOp r ta tb σ H Q)=(ta σ H (kOp r tb σ Q)):=rfl
def QT(v:V)(σ:St)(H:Hp)(Q:VK):(tC v σ H Q)=(Q v H):=rfl
def kUn(r:V->Hp->VK->Prop)(Q:VK):VK:=λ x H=>r x H Q
def Pa(r:V->Hp->VK->Prop)(Q:VK)(x:V)(H:Hp):(kUn r Q x H)=(r x H Q):=rfl
def OR(r:V->Hp->VK->Prop)(ta:TE)(σ:St)(H:Hp)(Q:VK):(tUn r ta σ H Q)=(ta σ H (kUn r Q)):=rfl
def PZ:R2:=λ x y H Q=>y=.non/\Q (.bl (decide (x=.non))) H
def xn:R2:=λ x y H Q=>y=.non/\Q (.bl (!decide (x=.non))) H
def wg(H:Hp)(Q:VK):PZ (.non) .non H Q=Q (.bl true) H:=propext ⟨λ h=>h.2,λ h=>⟨rfl,h⟩⟩
def tN(H:Hp)(Q:VK):xn (.non) .non H Q=Q (.bl false) H:=propext ⟨λ h=>h.2,λ h=>⟨rfl,h⟩⟩
def tO(i:Int)(H:Hp)(Q:VK):xn (.int i) .non H Q=Q (.bl true) H:=propext ⟨λ h=>h.2,λ h=>⟨rfl,h⟩⟩
def tM(i:Addr)(H:Hp)(Q:VK):xn (.ref i) .non H Q=Q (.bl true) H:=propext ⟨λ h=>h.2,λ h=>⟨rfl,h⟩⟩
def Kv(Q:Bool->Hp->Prop):VK:=λ x H=>∃ k,x=.bl k/\Q k H
def Qh(Q:Bool->Hp->Prop):Bool->Hp->Prop:=λ c H=>Q (!c) H
def Mj(Q:Bool->Hp->Prop)(c:Bool)(H:Hp):(Qh Q c H)=(Q (!c) H):=rfl
def LJ(t:TT)(σ:St)(H:Hp)(Q:Bool->Hp->Prop):(PQ t σ H Q)=(t σ H (Qh Q)):=rfl
def Qs(u:TT)(σ:St)(Q:Bool->Hp->Prop):Bool->Hp->Prop:=λ c H=>if c=true then u σ H Q else Q false H
def MN(u:TT)(σ:St)(Q:Bool->Hp->Prop)(c:Bool)(H:Hp):(Qs u σ Q c H)=(if c=true then u σ H Q else Q false H):=rfl
def LP(t u:TT)(σ:St)(H:Hp)(Q:Bool->Hp->Prop):(PX t u σ H Q)=(t σ H (Qs u σ Q)):=rfl
def kOr(u:TT)(σ:St)(Q:Bool->Hp->Prop):Bool->Hp->Prop:=λ c H=>if c=true then Q true H else u σ H Q
def Pe(u:TT)(σ:St)(Q:Bool->Hp->Prop)(c:Bool)(H:Hp):(kOr u σ Q c H)=(if c=true then Q true H else u σ H Q):=rfl
def OT(t u:TT)(σ:St)(H:Hp)(Q:Bool->Hp->Prop):(tOr t u σ H Q)=(t σ H (kOr u σ Q)):=rfl
def Pr(tb:TE)(σ:St)(Q:VK):VK:=λ x H=>∃ c,x=.bl c/\if c=true then tb σ H Q else Q (.bl false) H
def Q1(tb:TE)(σ:St)(Q:VK):VK:=λ x H=>∃ c,x=.bl c/\if c=true then Q (.bl true) H else tb σ H Q
def Pn(Q:VK):VK:=λ x H=>∃ c,x=.bl c/\Q (.bl (!c)) H
def Qj(ta tb:TE)(σ:St)(Q:VK):Bool->Hp->Prop:=λ c H=>if c=true then ta σ H Q else tb σ H Q
def Ms(ta tb:TE)(σ:St)(Q:VK)(c:Bool)(H:Hp):(Qj ta tb σ Q c H)=(if c=true then ta σ H Q else tb σ H Q):=rfl
def OX(t:TT)(ta tb:TE)(σ:St)(H:Hp)(Q:VK):(tIf t ta tb σ H Q)=(t σ H (Qj ta tb σ Q)):=rfl
def Ny(r':R2)(y:V)(Q:VK):VK:=λ w H=>r' y w H Q
def MD(r':R2)(y w:V)(Q:VK)(H:Hp):(Ny r' y Q w H)=(r' y w H Q):=rfl
def Ol(r':R2)(tc:TE)(σ:St)(y:V)(Q:VK):VK:=λ z H=>∃ k,z=.bl k/\(if k=true then tc σ H (Ny r' y Q) else Q (.bl false) H)
def Qo(r r':R2)(tc:TE)(σ:St)(x:V)(Q:VK):VK:=λ y H=>r x y H (Ol r' tc σ y Q)
def Q2(r r':R2)(tb tc:TE)(σ:St)(Q:VK):VK:=λ x H=>tb σ H (Qo r r' tc σ x Q)
def LK(σ:St)(H:Hp)(Q:List V->Hp->Prop):(Ng σ H Q)=(Q [] H):=rfl
def ye(x:V)(Q:List V->Hp->Prop):List V->Hp->Prop:=λ xs H=>Q (x::xs) H
def DD(x:V)(Q:List V->Hp->Prop)(xs:List V)(H:Hp):(ye x Q xs H)=(Q (x::xs) H):=rfl
def KA(tr:TA)(σ:St)(Q:List V->Hp->Prop):VK:=λ x H=>tr σ H (ye x Q)
def IK(tr:TA)(σ:St)(Q:List V->Hp->Prop)(x:V)(H:Hp):(KA tr σ Q x H)=(tr σ H (ye x Q)):=rfl
def HN(ta:TE)(tr:TA)(σ:St)(H:Hp)(Q:List V->Hp->Prop):(BX ta tr σ H Q)=(ta σ H (KA tr σ Q)):=rfl
def xr(sp:Sp)(dvs:List V)(E:XK)(Q:VK):List V->Hp->Prop:=λ vs H=>sp (vs++dvs) H Q E
def AQ(v0:V)(sp:Sp)(dvs:List V)(E:XK)(Q:VK)(H:Hp):xr sp dvs E Q [v0] H=sp (v0::dvs) H Q E:=rfl
def AO(v0 v1:V)(sp:Sp)(dvs:List V)(E:XK)(Q:VK)(H:Hp):xr sp dvs E Q [v0,v1] H=sp (v0::v1::dvs) H Q E:=rfl
def AN(v0 v1 v2:V)(sp:Sp)(dvs:List V)(E:XK)(Q:VK)(H:Hp):xr sp dvs E Q [v0,v1,v2] H=sp (v0::v1::v2::dvs) H Q E:=rfl
def AM(v0 v1 v2 v3:V)(sp:Sp)(dvs:List V)(E:XK)(Q:VK)(H:Hp):xr sp dvs E Q [v0,v1,v2,v3] H=sp (v0::v1::v2::v3::dvs) H Q E:=rfl
def HQ(sp:Sp)(dvs:List V)(E:XK)(t:TA)(σ:St)(H:Hp)(Q:VK):(Kb sp dvs E t σ H Q)=(t σ H (xr sp dvs E Q)):=rfl
def kCB(r:List V->Hp->VK->Prop)(Q:VK):List V->Hp->Prop:=λ vs H=>r vs H Q
def Pl(r:List V->Hp->VK->Prop)(Q:VK)(vs:List V)(H:Hp):(kCB r Q vs H)=(r vs H Q):=rfl
def OY(r:List V->Hp->VK->Prop)(t:TA)(σ:St)(H:Hp)(Q:VK):(tCB r t σ H Q)=(t σ H (kCB r Q)):=rfl
def HK(nx:St->Hp->Prop)(rt:VK)(bk ct:St->Hp->Prop)(σ:St)(H:Hp):(J8 ⟨nx,rt,bk,ct⟩ σ H)=(nx σ H):=rfl
def LH(t u:TS)(nx:St->Hp->Prop)(rt:VK)(bk ct:St->Hp->Prop)(σ:St)(H:Hp):(PL t u ⟨nx,rt,bk,ct⟩ σ H)=(t ⟨u ⟨nx,rt,bk,ct⟩,rt,bk,ct⟩ σ H):=rfl
def LI(te:TE)(nx:St->Hp->Prop)(rt:VK)(bk ct:St->Hp->Prop)(σ:St)(H:Hp):(PM te ⟨nx,rt,bk,ct⟩ σ H)=(te σ H rt):=rfl
def Kz(nx:St->Hp->Prop)(σ:St):VK:=λ x H=>nx σ H
def IJ(nx:St->Hp->Prop)(σ:St)(x:V)(H:Hp):(Kz nx σ x H)=(nx σ H):=rfl
def HL(te:TE)(nx:St->Hp->Prop)(rt:VK)(bk ct:St->Hp->Prop)(σ:St)(H:Hp):(J9 te ⟨nx,rt,bk,ct⟩ σ H)=(te σ H (Kz nx σ)):=rfl
def Qi(t u:TS)(D:uj)(σ:St):Bool->Hp->Prop:=λ b H=>if b=true then t D σ H else u D σ H
def Mr(t u:TS)(D:uj)(σ:St)(b:Bool)(H:Hp):(Qi t u D σ b H)=(if b=true then t D σ H else u D σ H):=rfl
def pQ(c:TT)(t u:TS)(D:uj)(σ:St)(H:Hp):(Nh c t u D σ H)=(c σ H (Qi t u D σ)):=rfl
def Qq(g:TG)(σ:St)(nx:St->Hp->Prop):VK:=λ x H=>g x σ H nx
def ML(g:TG)(σ:St)(nx:St->Hp->Prop)(x:V)(H:Hp):(Qq g σ nx x H)=(g x σ H nx):=rfl
def LO(te:TE)(g:TG)(nx:St->Hp->Prop)(rt:VK)(bk ct:St->Hp->Prop)(σ:St)(H:Hp):(ND te g ⟨nx,rt,bk,ct⟩ σ H)=(te σ H (Qq g σ nx)):=rfl
def kGs(u:TGs)(r:List V)(Q:St->Hp->Prop):St->Hp->Prop:=λ σ' H'=>u r σ' H' Q
def Pj(u:TGs)(r:List V)(Q:St->Hp->Prop)(σ:St)(H:Hp):(kGs u r Q σ H)=(u r σ H Q):=rfl
section
variable {X:Cx}
def OpR.mono{f:Value->Value->Sem Value}{r r':R2}(h:OpR X f r)(m:∀ x y H Q,r' x y H Q->r x y H Q):OpR X f r':=λ pins s σ H x y v u Q I rx ry hq=>h pins s σ H x y v u Q I rx ry (m _ _ _ _ hq)
def cu.mono{f:Value}{r r':List V->Hp->VK->Prop}(h:cu X f r)(m:∀ xs H Q,r' xs H Q->r xs H Q):cu X f r':=λ pins s σ H xs us Q I rx hq=>h pins s σ H xs us Q I rx (m _ _ _ hq)
def IxR.mono{r r':R2}(h:IxR X r)(m:∀ x y H Q,r' x y H Q->r x y H Q):IxR X r':=λ a b pins s σ H x y v u Q I rx ry hq=>h a b pins s σ H x y v u Q I rx ry (m _ _ _ _ hq)
def SlR.mono{r r':V->Option Int->Option Int->Hp->VK->Prop}(h:SlR X r)(m:∀ x lo hi H Q,r' x lo hi H Q->r x lo hi H Q):SlR X r':=λ pins s σ H x v vl vu lo hi sl Q I rx a b c hq=>h pins s σ H x v vl vu lo hi sl Q I rx a b c (m _ _ _ _ _ hq)
def PG.mono{tg:Expr}{g g':TG}(h:PG X tg g)(m:∀ v σ H Q,g' v σ H Q->g v σ H Q):PG X tg g':=λ pins s σ H v u Q I r hq=>h pins s σ H v u Q I r (m _ _ _ _ hq)
def iL{K:W.Frag}{H:Hp}{p:Addr}{ys:List V}(h:cZ H p=some ys):SqL K H p ys\/SqT K H p ys:=by
 unfold cZ at h
 cases e:H p with
 | none=>rw [e] at h;cases h
 | some o=>
  rw [e] at h;have h':Ni o=some ys:=h
  cases o with
  | lst xs=>cases h';exact .inl (SqL.of e)
  | tup xs=>cases h';exact .inr (SqT.of e)
  | frz ob u=>
   cases u with
   | lst xs=>cases h';exact .inl (.inl (.inr ⟨ob,e⟩))
   | _=>cases h'
  | _=>cases h'
def bj{H:Hp}{p:Addr}{ys:List V}(h:aA H p=some ys):H p=some (.lst ys):=by
 unfold aA at h
 cases e:H p with
 | none=>rw [e] at h;cases h
 | some o=>
  rw [e] at h;have h':NU o=some ys:=h
  cases o with
  | lst xs=>cases h';rfl
  | _=>cases h'
def um{H:Hp}{p:Addr}{ys:List V}(h:jY H p=some ys):H p=some (.tup ys):=by
 unfold jY at h
 cases e:H p with
 | none=>rw [e] at h;cases h
 | some o=>
  rw [e] at h;have h':NC o=some ys:=h
  cases o with
  | tup xs=>cases h';rfl
  | _=>cases h'
def N8(H:Hp)(Q:VK):List V->Prop:=λ ys=>Q (.int ys.length) H
def Mn(H:Hp)(Q:VK)(ys:List V):N8 H Q ys=Q (.int ys.length) H:=rfl
def NN(xs:List V)(H:Hp)(Q:VK):Prop:=match xs with
 | [.ref p]=>aH (cZ H p) (N8 H Q)
 | [.str z]=>z.length<=sizeLine/\Q (.int z.length) H
 | _=>False
def LX(p:Addr)(H:Hp)(Q:VK):NN [.ref p] H Q=aH (cZ H p) (N8 H Q):=rfl
def ao:cu X (.builtin "len") NN:=by
 refine(ek.or rF).mono λ xs H Q h=>?_;unfold NN at h;split at h
 ·rename_i p;obtain⟨ys,e,q⟩:=ai h;exact .inl ⟨p,ys,rfl,iL e,q⟩
 ·rename_i z;exact .inr ⟨z,rfl,h.1,h.2⟩
 ·exact h.elim
def N9(H:Hp)(Q:VK):V->Prop:=λ v=>Q v H
def Mp(H:Hp)(Q:VK)(v:V):N9 H Q v=Q v H:=rfl
def kIx(i:Int)(H:Hp)(Q:VK):List V->Prop:=λ ys=>aH (atI ys i) (N9 H Q)
def Ph(i:Int)(H:Hp)(Q:VK)(ys:List V):kIx i H Q ys=aH (atI ys i) (N9 H Q):=rfl
def qIx:R2:=λ x y H Q=>match x,y with
 | .ref p,.int i=>aH (cZ H p) (kIx i H Q)
 | _,_=>False
def O0(p:Addr)(i:Int)(H:Hp)(Q:VK):qIx (.ref p) (.int i) H Q=aH (cZ H p) (kIx i H Q):=rfl
def cq:IxR X qIx:=by
 refine(sN.or M3).mono λ x y H Q h=>?_;unfold qIx at h;split at h
 ·rename_i p i;obtain⟨ys,e,q⟩:=ai h;obtain⟨v,e2,q2⟩:=ai q
  rcases iL (K:=X.K) e with z|z
  ·exact .inl ⟨p,ys,i,v,rfl,rfl,z,e2,q2⟩
  ·exact .inr ⟨p,ys,i,v,rfl,rfl,z,e2,q2⟩
 ·exact h.elim
def Px{α:Type}(a:α)(xs:List α):atI (a::xs) 0=some a:=cI (j:=0) rfl
def Pw{α:Type}(a b:α)(xs:List α):atI (a::b::xs) 1=some b:=cI (j:=1) rfl
def Po(H:Hp)(Q:VK):List V->Prop:=λ ys=>∀ l,H l=none->Q (.ref l) (upd H l (.lst ys))
def Ki(xs:List V)(H:Hp)(Q:VK):Prop:=match xs with
 | [.ref p]=>aH (cZ H p) (Po H Q)
 | _=>False
def wR:cu X (.type "list") Ki:=by
 refine rE.mono λ xs H Q h=>?_;unfold Ki at h;split at h
 ·rename_i p;obtain⟨ys,e,q⟩:=ai h;exact⟨p,ys,rfl,iL e,q⟩
 ·exact h.elim
def Gg(p:Addr)(H:Hp)(Q:VK):HO->Prop:=λ o=>match o with
 | .lst ys=>∀ l,H l=none->Q (.ref l) (upd H l (.tup ys))
 | .tup _=>Q (.ref p) H
 | _=>False
def Fe(xs:List V)(H:Hp)(Q:VK):Prop:=match xs with
 | [.ref p]=>aH (H p) (Gg p H Q)
 | _=>False
def t6:cu X (.type "tuple") Fe:=by
 refine pq.mono λ xs H Q h=>?_;unfold Fe at h;split at h
 ·rename_i p;obtain⟨o,e,q⟩:=ai h;unfold Gg at q;split at q
  ·rename_i ys;exact⟨p,ys,rfl,.inl ⟨SqL.of e,q⟩⟩
  ·rename_i ys;exact⟨p,ys,rfl,.inr ⟨SqT.of e,q⟩⟩
  ·exact q.elim
 ·exact h.elim
def NM(xs:List V)(H:Hp)(Q:VK):Prop:=match xs with
 | [.int i,.int j]=>Q (.int (if i < j then j else i)) H
 | _=>False
def LV(i j:Int)(H:Hp)(Q:VK):NM [.int i,.int j] H Q=Q (.int (if i < j then j else i)) H:=rfl
def lh(hc:X.calm=true):cu X (.builtin "max") NM:=by
 refine(By hc).mono λ xs H Q h=>?_;unfold NM at h;split at h
 ·rename_i i j;exact⟨i,j,rfl,h⟩
 ·exact h.elim
def NL(xs:List V)(H:Hp)(Q:VK):Prop:=match xs with
 | [.int i,.int j]=>Q (.int (if j < i then j else i)) H
 | _=>False
def LU(i j:Int)(H:Hp)(Q:VK):NL [.int i,.int j] H Q=Q (.int (if j < i then j else i)) H:=rfl
def qC(hc:X.calm=true):cu X (.builtin "min") NL:=by
 refine(Bw hc).mono λ xs H Q h=>?_;unfold NL at h;split at h
 ·rename_i i j;exact⟨i,j,rfl,h⟩
 ·exact h.elim
def tyO:HO->Option String
 | .lst _=>some "list"
 | .tup _=>some "tuple"
 | .frz _ (.lst _)=>some "list"
 | .dK _=>some "dict"
 | .dT _=>some "dict"
 | _=>none
def GO(xs:List V):tyO (.lst xs)=some "list":=rfl
def GN(xs:List V):tyO (.tup xs)=some "tuple":=rfl
def KS(xs:List (Key × V)):tyO (.dK xs)=some "dict":=rfl
def tyN(H:Hp):V->Option String
 | .non=>some "NoneType"
 | .bl _=>some "bool"
 | .int _=>some "int"
 | .str _=>some "str"
 | .ref p=>(H p).bind tyO
 | _=>none
def GR(H:Hp):tyN H .non=some "NoneType":=rfl
def KW(H:Hp)(b:Bool):tyN H (.bl b)=some "bool":=rfl
def GS(H:Hp)(i:Int):tyN H (.int i)=some "int":=rfl
def GP(H:Hp)(x:Str):tyN H (.str x)=some "str":=rfl
def GQ(H:Hp)(p:Addr):tyN H (.ref p)=(H p).bind tyO:=rfl
def KU{K:W.Frag}{H:Hp}{x:V}{t:String}(h:tyN H x=some t):ui K H x (.type t):=by
 cases x with
 | non=>cases h;exact .non
 | bl b=>cases h;exact .bl b
 | int i=>cases h;exact .int i
 | str x=>cases h;exact .str x
 | ref p=>
  have h':(H p).bind tyO=some t:=h
  cases e:H p with
  | none=>rw [e] at h';cases h'
  | some o=>
   rw [e] at h';have h2:tyO o=some t:=h'
   cases o with
   | lst xs=>cases h2;exact .lst e
   | tup xs=>cases h2;exact .tup e
   | dK xs=>cases h2;exact .dK e
   | dT xs=>cases h2;exact .dT e
   | frz ob u=>
    cases u with
    | lst xs=>cases h2;exact .frz e
    | _=>cases h2
   | _=>cases h2
 | _=>cases h
def pR:List String:=["NoneType", "bool", "int", "str", "list", "tuple", "dict"]
def Qu(t n:String):Bool:=t == n || (t == "bool" && n == "int")
def Ed(K:W.Frag):∀ t∈pR,∀ n∈pR,W.kitOne K (.type t) (.type n)=some (Qu t n):=by
 intro t ht n hn;unfold pR at ht hn;simp only [mem_cons,not_mem_nil,or_false] at ht hn
 rcases ht with rfl|rfl|rfl|rfl|rfl|rfl|rfl<;>rcases hn with rfl|rfl|rfl|rfl|rfl|rfl|rfl<;>exact Bg K _ _ _ (by decide +kernel)
def iX(n:String)(H:Hp)(Q:VK):String->Prop:=λ t=>t∈pR/\Q (.bl (Qu t n)) H
def BQ(xs:List V)(H:Hp)(Q:VK):Prop:=match xs with
 | [x,.ty n]=>n∈pR/\aH (tyN H x) (iX n H Q)
 | _=>False
def bz:cu X (.builtin "isinstance") BQ:=by
 refine EH.mono λ xs H Q h=>?_;unfold BQ at h;split at h
 ·rename_i x n;obtain⟨hn,h⟩:=h;obtain⟨t,e,ht,q⟩:=ai h;exact⟨x,n,_,_,rfl,KU e,Ed _ t ht n hn,q⟩
 ·exact h.elim
def wj(x:V)(H:Hp)(Q:VK):BQ [x,.ty "int"] H Q=aH (tyN H x) (iX "int" H Q):=by
 unfold BQ;exact propext ⟨λ h=>h.2,λ h=>⟨by decide,h⟩⟩
def tR(x:V)(H:Hp)(Q:VK):BQ [x,.ty "bool"] H Q=aH (tyN H x) (iX "bool" H Q):=by
 unfold BQ;exact propext ⟨λ h=>h.2,λ h=>⟨by decide,h⟩⟩
def rC(x:V)(H:Hp)(Q:VK):BQ [x,.ty "tuple"] H Q=aH (tyN H x) (iX "tuple" H Q):=by
 unfold BQ;exact propext ⟨λ h=>h.2,λ h=>⟨by decide,h⟩⟩
def tQ(x:V)(H:Hp)(Q:VK):BQ [x,.ty "list"] H Q=aH (tyN H x) (iX "list" H Q):=by
 unfold BQ;exact propext ⟨λ h=>h.2,λ h=>⟨by decide,h⟩⟩
def AJ(H:Hp)(Q:VK):iX "int" H Q "NoneType"=Q (.bl false) H:=propext ⟨λ h=>h.2,λ h=>⟨by decide,h⟩⟩
def AI(H:Hp)(Q:VK):iX "list" H Q "NoneType"=Q (.bl false) H:=propext ⟨λ h=>h.2,λ h=>⟨by decide,h⟩⟩
def AH(H:Hp)(Q:VK):iX "tuple" H Q "NoneType"=Q (.bl false) H:=propext ⟨λ h=>h.2,λ h=>⟨by decide,h⟩⟩
def AG(H:Hp)(Q:VK):iX "bool" H Q "bool"=Q (.bl true) H:=propext ⟨λ h=>h.2,λ h=>⟨by decide,h⟩⟩
def AF(H:Hp)(Q:VK):iX "int" H Q "bool"=Q (.bl true) H:=propext ⟨λ h=>h.2,λ h=>⟨by decide,h⟩⟩
def AE(H:Hp)(Q:VK):iX "tuple" H Q "bool"=Q (.bl false) H:=propext ⟨λ h=>h.2,λ h=>⟨by decide,h⟩⟩
def Az(H:Hp)(Q:VK):iX "bool" H Q "int"=Q (.bl false) H:=propext ⟨λ h=>h.2,λ h=>⟨by decide,h⟩⟩
def Ay(H:Hp)(Q:VK):iX "int" H Q "int"=Q (.bl true) H:=propext ⟨λ h=>h.2,λ h=>⟨by decide,h⟩⟩
def Ax(H:Hp)(Q:VK):iX "list" H Q "int"=Q (.bl false) H:=propext ⟨λ h=>h.2,λ h=>⟨by decide,h⟩⟩
def Aw(H:Hp)(Q:VK):iX "tuple" H Q "int"=Q (.bl false) H:=propext ⟨λ h=>h.2,λ h=>⟨by decide,h⟩⟩
def Ar(H:Hp)(Q:VK):iX "int" H Q "str"=Q (.bl false) H:=propext ⟨λ h=>h.2,λ h=>⟨by decide,h⟩⟩
def Aq(H:Hp)(Q:VK):iX "list" H Q "str"=Q (.bl false) H:=propext ⟨λ h=>h.2,λ h=>⟨by decide,h⟩⟩
def Ap(H:Hp)(Q:VK):iX "tuple" H Q "str"=Q (.bl false) H:=propext ⟨λ h=>h.2,λ h=>⟨by decide,h⟩⟩
def Av(H:Hp)(Q:VK):iX "int" H Q "list"=Q (.bl false) H:=propext ⟨λ h=>h.2,λ h=>⟨by decide,h⟩⟩
def Au(H:Hp)(Q:VK):iX "list" H Q "list"=Q (.bl true) H:=propext ⟨λ h=>h.2,λ h=>⟨by decide,h⟩⟩
def As(H:Hp)(Q:VK):iX "tuple" H Q "list"=Q (.bl false) H:=propext ⟨λ h=>h.2,λ h=>⟨by decide,h⟩⟩
def Ao(H:Hp)(Q:VK):iX "int" H Q "tuple"=Q (.bl false) H:=propext ⟨λ h=>h.2,λ h=>⟨by decide,h⟩⟩
def An(H:Hp)(Q:VK):iX "list" H Q "tuple"=Q (.bl false) H:=propext ⟨λ h=>h.2,λ h=>⟨by decide,h⟩⟩
def Am(H:Hp)(Q:VK):iX "tuple" H Q "tuple"=Q (.bl true) H:=propext ⟨λ h=>h.2,λ h=>⟨by decide,h⟩⟩
def AD(H:Hp)(Q:VK):iX "int" H Q "dict"=Q (.bl false) H:=propext ⟨λ h=>h.2,λ h=>⟨by decide,h⟩⟩
def AB(H:Hp)(Q:VK):iX "list" H Q "dict"=Q (.bl false) H:=propext ⟨λ h=>h.2,λ h=>⟨by decide,h⟩⟩
def AA(H:Hp)(Q:VK):iX "tuple" H Q "dict"=Q (.bl false) H:=propext ⟨λ h=>h.2,λ h=>⟨by decide,h⟩⟩
def Ot(r:V->List V->Hp->VK->Prop)(x:V)(Q:VK):List V->Hp->Prop:=λ xs H=>r x xs H Q
def MI(r:V->List V->Hp->VK->Prop)(x:V)(Q:VK)(xs:List V)(H:Hp):Ot r x Q xs H=r x xs H Q:=rfl
def kBM(K:W.Frag)(T:String)(r:V->List V->Hp->VK->Prop)(t:TA)(σ:St)(Q:VK):VK:=λ x H=>tyV K T x H/\t σ H (Ot r x Q)
def Pm(K:W.Frag)(T:String)(r:V->List V->Hp->VK->Prop)(t:TA)(σ:St)(Q:VK)(x:V)(H:Hp):kBM K T r t σ Q x H=(tyV K T x H/\t σ H (Ot r x Q)):=rfl
def OZ(K:W.Frag)(T:String)(r:V->List V->Hp->VK->Prop)(to:TE)(t:TA)(σ:St)(H:Hp)(Q:VK):tBM K T r to t σ H Q=to σ H (kBM K T r t σ Q):=rfl
def Qp(K:W.Frag)(T:String)(r:V->List V->Hp->VK->Prop)(Q:VK):VK:=λ x H=>tyV K T x H/\r x [] H Q
def MH(K:W.Frag)(T:String)(r:V->List V->Hp->VK->Prop)(Q:VK)(x:V)(H:Hp):Qp K T r Q x H=(tyV K T x H/\r x [] H Q):=rfl
def LN(K:W.Frag)(T:String)(r:V->List V->Hp->VK->Prop)(to:TE)(σ:St)(H:Hp)(Q:VK):PV K T r to σ H Q=to σ H (Qp K T r Q):=rfl
def Cp(K:W.Frag)(p:Addr)(H:Hp)(h:(aA H p).isSome=true):tyV K "list" (.ref p) H=True:=by
 cases e:aA H p with
 | none=>rw [e] at h;cases h
 | some ys=>exact eq_true (.inl ⟨rfl,ys,SqL.of (bj e)⟩)
def Qr(l:Addr)(y:V)(H:Hp)(Q:VK):List V->Prop:=λ xs=>xs.length < sizeLine/\Q .non (upd H l (.lst (xs++[y])))
def MM(l:Addr)(y:V)(H:Hp)(Q:VK)(xs:List V):Qr l y H Q xs=(xs.length < sizeLine/\Q .non (upd H l (.lst (xs++[y])))):=rfl
def Ai(l:Addr)(y:V)(H:Hp)(Q:VK):yt (.ref l) [y] H Q=aH (aA H l) (Qr l y H Q):=by
 refine propext ⟨λ h=>?_,λ h=>?_⟩
 ·obtain⟨_,xs,_,e1,e2,e3,a,b⟩:=h;cases e1;cases e2;have e:aA H l=some xs:=by unfold aA;rw [e3];rfl
  rw [e];exact⟨a,b⟩
 ·obtain⟨xs,e,a,b⟩:=ai h;exact⟨l,xs,y,rfl,rfl,bj e,a,b⟩
def Qg(l:Addr)(H:Hp)(Q:VK):List V->Prop:=λ xs=>Q .non (upd H l (.lst xs.reverse))
def Me(l:Addr)(H:Hp)(Q:VK)(xs:List V):Qg l H Q xs=Q .non (upd H l (.lst xs.reverse)):=rfl
def we(l:Addr)(H:Hp)(Q:VK):uK (.ref l) [] H Q=aH (aA H l) (Qg l H Q):=by
 refine propext ⟨λ h=>?_,λ h=>?_⟩
 ·obtain⟨_,xs,e1,_,e3,b⟩:=h;cases e1;have e:aA H l=some xs:=by unfold aA;rw [e3];rfl
  rw [e];exact b
 ·obtain⟨xs,e,b⟩:=ai h;exact⟨l,xs,rfl,rfl,bj e,b⟩
def Pp(xs:List V)(H:Hp)(Q:VK):List V->Prop:=λ ys=>xs.length+ys.length<=sizeLine/\∀ p,H p=none->Q (.ref p) (upd H p (.lst (xs++ys)))
def Pq(b:Addr)(H:Hp)(Q:VK):List V->Prop:=λ xs=>aH (aA H b) (Pp xs H Q)
def LQ(l b:Addr)(H:Hp)(Q:VK):P2 (.ref l) (.ref b) H Q=aH (aA H l) (Pq b H Q):=by
 refine propext ⟨λ h=>?_,λ h=>?_⟩
 ·obtain⟨l',b',xs,zs,e1,e2,e3,e4,hz,hq⟩:=h;cases e1;cases e2;have e:aA H l=some xs:=by unfold aA;rw [e3];rfl
  have e':aA H b=some zs:=by unfold aA;rw [e4];rfl
  rw [e]
  show aH (aA H b) _
  rw [e'];exact⟨hz,hq⟩
 ·obtain⟨xs,e,q⟩:=ai h;obtain⟨zs,e',a,q⟩:=ai q;exact⟨l,b,xs,zs,rfl,rfl,bj e,bj e',a,q⟩
def Gj(p:Addr)(xs:List V)(v:V)(H:Hp)(Q:Hp->Prop):Nat->Prop:=λ j=>Q (upd H p (.lst (xs.set j v)))
def Iz(p:Addr)(xs:List V)(v:V)(H:Hp)(Q:Hp->Prop)(j:Nat):Gj p xs v H Q j=Q (upd H p (.lst (xs.set j v))):=rfl
def Qf(p:Addr)(i:Int)(v:V)(H:Hp)(Q:Hp->Prop):List V->Prop:=λ xs=>aH (ixN xs.length i) (Gj p xs v H Q)
def Mb(p:Addr)(i:Int)(v:V)(H:Hp)(Q:Hp->Prop)(xs:List V):Qf p i v H Q xs=aH (ixN xs.length i) (Gj p xs v H Q):=rfl
def HW(p:Addr)(i:Int)(v:V)(H:Hp)(Q:Hp->Prop):Kh (.ref p) (.int i) v H Q=aH (aA H p) (Qf p i v H Q):=by
 refine propext ⟨λ h=>?_,λ h=>?_⟩
 ·obtain⟨_,xs,_,j,e1,e2,e3,e4,b⟩:=h;cases e1;cases e2;have e:aA H p=some xs:=by unfold aA;rw [e3];rfl
  rw [e]
  show aH (ixN xs.length i) _
  rw [e4];exact b
 ·obtain⟨xs,e,q⟩:=ai h;obtain⟨j,e4,q⟩:=ai q;exact⟨p,xs,i,j,rfl,rfl,bj e,e4,q⟩
def yd(t:E1)(o v:V)(σ:St)(Q:St->Hp->Prop):VK:=λ i H=>t o i v H λ H3=>Q σ H3
def Dz(t:E1)(o v:V)(σ:St)(Q:St->Hp->Prop)(i:V)(H:Hp):yd t o v σ Q i H=t o i v H (Q σ):=rfl
def Fq(ti:TE)(t:E1)(v:V)(σ:St)(Q:St->Hp->Prop):VK:=λ o H=>ti σ H (yd t o v σ Q)
def DA(ti:TE)(t:E1)(v:V)(σ:St)(Q:St->Hp->Prop)(o:V)(H:Hp):Fq ti t v σ Q o H=ti σ H (yd t o v σ Q):=rfl
def MS(to ti:TE)(t:E1)(v:V)(σ:St)(H:Hp)(Q:St->Hp->Prop):Qz to ti t v σ H Q=to σ H (Fq ti t v σ Q):=rfl
def kGT(n:Nat)(t:TGs)(σ:St)(H:Hp)(Q:St->Hp->Prop):List V->Prop:=λ xs=>xs.length=n/\t xs σ H Q
def Pk(n:Nat)(t:TGs)(σ:St)(H:Hp)(Q:St->Hp->Prop)(xs:List V):kGT n t σ H Q xs=(xs.length=n/\t xs σ H Q):=rfl
def qGT(n:Nat)(t:TGs):TG:=λ v σ H Q=>match v with
 | .ref a=>aH (jY H a) (kGT n t σ H Q)
 | _=>False
def O1(n:Nat)(t:TGs)(a:Addr)(σ:St)(H:Hp)(Q:St->Hp->Prop):qGT n t (.ref a) σ H Q=aH (jY H a) (kGT n t σ H Q):=rfl
def bX{K:W.Frag}{n:Nat}{t:TGs}{v:V}{σ:St}{H:Hp}{Q:St->Hp->Prop}(h:qGT n t v σ H Q):Qy K n t v σ H Q:=by
 unfold qGT at h;split at h
 ·rename_i a;obtain⟨xs,e,hl,q⟩:=ai h;exact⟨a,xs,rfl,SqT.of (um e),hl,q⟩
 ·exact h.elim
def Lj:OpR X (compareOp .Is) PZ:=Lm
def ow:OpR X (compareOp .IsNot) xn:=Hu
def rW(tb:TS)(D:uj):St->Hp->Prop:=λ σ H=>tb D σ H
def aD(tb:TS)(D:uj)(σ:St)(H:Hp):rW tb D σ H=tb D σ H:=rfl
def FA(g:TG)(tb:TS)(D:uj)(σ:St)(J:It)(H1:Hp):Prop:=∃ W:Nat->Nat->St->Hp->Prop,(∃ m,W 0 m σ H1)/\∀ i m σ H,W i m σ H →
 (J.stop i H/\D.nx σ H)\/(J.go i H/\∃ N:St->Hp->Prop,(∀ σ' H',N σ' H'->∃ m',m' < m/\W (i+1) m' σ' H')/\∀ x H',J.yld i H x H'->g x σ H' λ σ2 H2=>tb { D with nx:=N,ct:=N,bk:=D.nx } σ2 H2)
def LL(wi:TI)(g:TG)(tb:TS)(D:uj)(σ:St)(H:Hp):PR wi g tb D σ H=wi σ H (FA g tb D σ):=rfl
def kR1(R:It->Hp->Prop):List V->Hp->Prop:=λ vs H=>∃ j:Int,vs=[.int j]/\-(2 ^ 62)<=j/\j < 2 ^ 62/\R (Itr 0 j.toNat) H
def Pb(R:It->Hp->Prop)(j:Int)(H:Hp):kR1 R [.int j] H=(-(2 ^ 62)<=j/\j < 2 ^ 62/\R (Itr 0 j.toNat) H):=propext ⟨λ ⟨_,e,q⟩=>by cases e;exact q,λ q=>⟨j,rfl,q⟩⟩
def IU(ta:TA)(σ:St)(H:Hp)(R:It->Hp->Prop):KD ta σ H R=ta σ H (kR1 R):=rfl
def B2(K:W.Frag)(a:Addr)(H:Hp)(R:It->Hp->Prop):HO->Prop:=λ o=>match o with
 | .lst _=>R (Itl K a) H
 | .frz _ (.lst _)=>R (Itl K a) H
 | .tup _=>R (Itt K a) H
 | _=>False
def AL(K:W.Frag)(a:Addr)(H:Hp)(R:It->Hp->Prop)(xs:List V):B2 K a H R (.lst xs)=R (Itl K a) H:=rfl
def Nu(K:W.Frag)(R:It->Hp->Prop):VK:=λ x H=>match x with
 | .ref a=>aH (H a) (B2 K a H R)
 | _=>False
def Mt(K:W.Frag)(R:It->Hp->Prop)(a:Addr)(H:Hp):Nu K R (.ref a) H=aH (H a) (B2 K a H R):=rfl
def Qw(K:W.Frag)(tl:TE):TI:=λ σ H R=>tl σ H (Nu K R)
def MP(K:W.Frag)(tl:TE)(σ:St)(H:Hp)(R:It->Hp->Prop):Qw K tl σ H R=tl σ H (Nu K R):=rfl
def K8{tg l:Expr}{tl:TE}(hl:PE X l tl):PI X tg l (Qw X.K tl):=by
 intro pins s σ H R I h;refine thn (hl pins s σ H _ I h) λ v s1 ⟨x,H1,I1,r1,q1⟩=>?_;unfold Nu at q1;split at q1
 ·rename_i a;cases r1;obtain⟨o,e,q⟩:=ai q1
  have fp:∀ b∈[s1.heap.objs.size],rS X pins H1 b:=λ b hb=>by
   have e:b=s1.heap.objs.size:=by simpa using hb
   subst e;exact I1.fpOk (Rl _) (I1.hok.fresh (Rl _))
  have lst:∀ xs,SqL X.K H1 a xs->R (Itl X.K a) H1->wpAny (model X.prog X.w) X.A (pyIter (.ref a)) (PIE X pins σ tg R) X.xe s1:=λ xs hq q=>by
   obtain⟨its,rv,p,hz⟩:=I1.list hq;refine S0 p.isList ?_;exact⟨s1.heap.objs.size,[s1.heap.objs.size],_,_,H1,rfl,I1.kept (t':=s1.toks) λ b o e=>Rc _ e,zG a _,⟨_,Rn _ rfl,rfl,rfl⟩,fp,q⟩
  unfold B2 at q;split at q
  ·exact lst _ (SqL.of e) q
  ·exact lst _ (.inl (.inr ⟨_,e⟩)) q
  ·obtain⟨its,rv,p,hz⟩:=I1.tuple (SqT.of e);refine wpAny_pyIter_tuple (show s1.heap.IsTuple a its.toArray from p) ?_;exact⟨s1.heap.objs.size,[s1.heap.objs.size],_,_,H1,rfl,I1.kept (t':=s1.toks) λ b o e=>Rc _ e,vO a _,⟨_,Rn _ rfl,rfl,rfl⟩,fp,q⟩
  ·exact q.elim
 ·exact q1.elim
def gZ{lo:Int}{n:Nat}{g:TG}{tb:TS}{nx:St->Hp->Prop}{rt:VK}{bk ct:St->Hp->Prop}{σ:St}{H:Hp}(Pv:Nat->St->Hp->Prop)(h0:Pv 0 σ H)
  (hs:∀ i σ H,i < n->Pv i σ H->g (.int (lo+i)) σ H (rW tb ⟨Pv (i+1),rt,nx,Pv (i+1)⟩)) (hd:∀ σ H,Pv n σ H->nx σ H):FA g tb ⟨nx,rt,bk,ct⟩ σ (Itr lo n) H:=Bq Pv h0 hs hd
def cw{K:W.Frag}{a:Addr}{xs:List V}{g:TG}{tb:TS}{nx:St->Hp->Prop}{rt:VK}{bk ct:St->Hp->Prop}{σ:St}{H:Hp}(Pv:Nat->St->Hp->Prop)(h0:Pv 0 σ H)(hl:∀ i σ H,i<=xs.length->Pv i σ H->H a=some (.lst xs))
  (hs:∀ i x σ H,xs[i]? = some x->Pv i σ H->g x σ H (rW tb ⟨Pv (i+1),rt,nx,Pv (i+1)⟩)) (hd:∀ σ H,Pv xs.length σ H->nx σ H):FA g tb ⟨nx,rt,bk,ct⟩ σ (Itl K a) H:=Ey (xs:=xs) Pv h0 (λ i σ H hi p=>SqL.of (hl i σ H hi p)) hs hd
def kWh(tb:TS)(nx:St->Hp->Prop)(rt:VK)(Pv:Nat->St->Hp->Prop)(m:Nat)(σ:St):Bool->Hp->Prop:=λ b H=>if b=true then tb ⟨λ σ' H'=>∃ m',m' < m/\Pv m' σ' H',rt,nx,λ σ' H'=>∃ m',m' < m/\Pv m' σ' H'⟩ σ H else nx σ H
def O9(tb:TS)(nx:St->Hp->Prop)(rt:VK)(Pv:Nat->St->Hp->Prop)(m:Nat)(σ:St)(b:Bool)(H:Hp):kWh tb nx rt Pv m σ b H=(if b=true then tb ⟨λ σ' H'=>∃ m',m' < m/\Pv m' σ' H',rt,nx,λ σ' H'=>∃ m',m' < m/\Pv m' σ' H'⟩ σ H else nx σ H):=rfl
def GA{c:TT}{tb:TS}{nx:St->Hp->Prop}{rt:VK}{bk ct:St->Hp->Prop}{σ:St}{H:Hp}(Pv:Nat->St->Hp->Prop)(m0:Nat)(h0:Pv m0 σ H)
  (mono:∀ σ H Q Q',(∀ b H1,Q b H1->Q' b H1)->c σ H Q->c σ H Q')
  (hs:∀ m σ H,Pv m σ H->c σ H (kWh tb nx rt Pv m σ)):xx c tb ⟨nx,rt,bk,ct⟩ σ H:=by
 refine⟨Pv,⟨m0,h0⟩,λ m σ H p=>mono σ H _ _ (λ b H1 q=>?_) (hs m σ H p)⟩;unfold kWh at q
 cases b with
 | true=>exact⟨_,λ σ' H' z=>z,q⟩
 | false=>exact q
end
def kE4(H:Hp)(Q:VK):Bool->Prop:=λ b=>Q (.bl b) H
def Kq(H:Hp)(Q:VK)(b:Bool):kE4 H Q b=Q (.bl b) H:=rfl
def kC3(D:Addr)(ys:List V)(N:List V->Hp->Prop):VK:=λ y H=>H D=some (.lst ys)/\ys.length < sizeLine/\N (ys++[y]) (upd H D (.lst (ys++[y])))
def kC2(te:TE)(σ2:St)(D:Addr)(ys:List V)(N:List V->Hp->Prop):Bool->Hp->Prop:=λ b H=>if b=true then te σ2 H (kC3 D ys N) else N ys H
def kC1(k:Nat)(tt:TT)(te:TE)(σ:St)(D:Addr)(ys:List V)(N:List V->Hp->Prop):St->Hp->Prop:=λ σ2 H=>(∃ vs:St,vs.length=k/\σ2=vs++σ)/\tt σ2 H (kC2 te σ2 D ys N)
def Lu(σ:St)(H:Hp)(Q:Bool->Hp->Prop):PF σ H Q=Q true H:=rfl
def B4(k:Nat)(g:TG)(tt:TT)(te:TE)(σ:St)(Q:VK):It->Hp->Prop:=λ J H1=>∀ D,H1 D=none->∃ W:Nat->Nat->List V->Hp->Prop,(∃ m,W 0 m [] (upd H1 D (.lst [])))/\∀ i m ys H,W i m ys H →
 (J.stop i H/\Q (.ref D) H)\/(J.go i H/\∃ N:List V->Hp->Prop,(∀ aS H',N aS H'->∃ m',m' < m/\W (i+1) m' aS H') /\
  ∀ x H',J.yld i H x H'->g x (List.replicate k none++σ) H' (kC1 k tt te σ D ys N))
def HP(k:Nat)(wi:TI)(g:TG)(tt:TT)(te:TE)(σ:St)(H:Hp)(Q:VK):FG k wi g tt te σ H Q=wi σ H (B4 k g tt te σ Q):=rfl
def Kw(i:Nat)(σ:St)(nx:St->Hp->Prop):VK:=λ x H=>eY i x σ H nx
def Iv(i:Nat)(σ:St)(nx:St->Hp->Prop)(x:V)(H:Hp):Kw i σ nx x H=eY i x σ H nx:=rfl
def HI(i:Nat)(te:TE)(nx:St->Hp->Prop)(rt:VK)(bk ct:St->Hp->Prop)(σ:St)(H:Hp):J5 i te ⟨nx,rt,bk,ct⟩ σ H=te σ H (Kw i σ nx):=rfl
section
variable {k:Nat}{g:TG}{tt:TT}{te:TE}{σ:St}{Q:VK}{H:Hp}{K:PySem.W.Frag}
end
def ba{α:Type}:List (Option α)->Option (List α)
 | []=>some []
 | o::r=>o.bind λ x=>(ba r).map λ xs=>x::xs
def xi(f:V->Option PyData):HO->Option PyData
 | .lst xs=>(ba (xs.map f)).map .list
 | .tup xs=>(ba (xs.map f)).map .tuple
 | _=>none
def dh(H:Hp)(f:V->Option PyData):V->Option PyData
 | .non=>some .none
 | .bl b=>some (.bool b)
 | .int i=>some (.int i)
 | .str z=>if PyData.strOk z=true then some (.str z) else none
 | .ref p=>(H p).bind (xi f)
 | _=>none
def gU(H:Hp):Nat->V->Option PyData
 | 0,_=>none
 | n+1,x=>dh H (gU H n) x
def noD:V->Option PyData:=λ _=>none
def MU(H:Hp)(x:V):gU H 6 x=dh H (dh H (dh H (dh H (dh H (dh H noD))))) x:=rfl
def wx(H:Hp)(n:Nat)(z:Str):gU H (n+1) (.str z)=if PyData.strOk z=true then some (.str z) else none:=rfl
def jo(H:Hp)(n:Nat)(p:Addr):gU H (n+1) (.ref p)=(H p).bind (xi (gU H n)):=rfl
def gL(H:Hp)(f:V->Option PyData)(p:Addr):dh H f (.ref p)=(H p).bind (xi f):=rfl
def gK(f:V->Option PyData)(xs:List V):xi f (.lst xs)=(ba (xs.map f)).map .list:=rfl
def gJ(f:V->Option PyData)(xs:List V):xi f (.tup xs)=(ba (xs.map f)).map .tuple:=rfl
def ph{α:Type}:ba ([]:List (Option α))=some []:=rfl
def ml{α:Type}(x:α)(r:List (Option α)):ba (some x::r)=(ba r).map λ xs=>x::xs:=rfl
def gv(H:Hp)(f:V->Option PyData):∀ ns:List Int,ba ((ns.map V.int).map (dh H f))=some (ns.map PyData.int)
 | []=>rfl
 | i::r=>by
  show (ba ((r.map V.int).map (dh H f))).map _=_
  rw [gv H f r];rfl
def oC{K:W.Frag}{H:Hp}{n:Nat}(ih:∀ x d,gU H n x=some d->nv K H x d/\d.canLay0=true/\d.depth<=n):∀ (xs:List V) (ds:List PyData),ba (xs.map (gU H n))=some ds->j8 K H xs ds/\PyData.canLayAll0 ds=true/\PyData.depthAll ds<=n
 | [],ds,h=>by cases h;exact⟨.nil,rfl,So _⟩
 | x::xs,ds,h=>by
  have h':(gU H n x).bind (λ d=>(ba (xs.map (gU H n))).map λ ds=>d::ds)=some ds:=h
  cases e:gU H n x with
  | none=>rw [e] at h';cases h'
  | some d=>
   rw [e] at h';have h2:(ba (xs.map (gU H n))).map (λ ds=>d::ds)=some ds:=h'
   cases e2:ba (xs.map (gU H n)) with
   | none=>rw [e2] at h2;cases h2
   | some es=>
    rw [e2] at h2;cases h2;obtain⟨a,b,c⟩:=ih x d e;obtain⟨a',b',c'⟩:=oC ih xs es e2;exact⟨.cons a a',by simp [PyData.canLayAll0,b,b'],by simp only [PyData.depthAll];omega⟩
def kq{K:W.Frag}{H:Hp}:∀ (n:Nat) (x:V) (d:PyData),gU H n x=some d->nv K H x d/\d.canLay0=true/\d.depth<=n
 | 0,x,d,h=>by cases h
 | n+1,x,d,h=>by
  cases x with
  | non=>cases h;exact⟨.non,rfl,So _⟩
  | bl b=>cases h;exact⟨.bl b,rfl,So _⟩
  | int i=>cases h;exact⟨.int i,rfl,So _⟩
  | str z=>
   rw [wx] at h;split at h
   ·rename_i hz;cases h;exact⟨.str z,by simpa [PyData.canLay0] using hz,So _⟩
   ·cases h
  | ref p=>
   rw [jo] at h
   cases e:H p with
   | none=>rw [e] at h;cases h
   | some o=>
    rw [e] at h;have h':xi (gU H n) o=some d:=h
    cases o with
    | lst xs=>
     rw [gK] at h'
     cases e2:ba (xs.map (gU H n)) with
     | none=>rw [e2] at h';cases h'
     | some ds=>
      rw [e2] at h';cases h';obtain⟨a,b,c⟩:=oC (K:=K) (kq n) xs ds e2;exact⟨.lst (SqL.of e) a,by simpa [PyData.canLay0] using b,by simp only [PyData.depth];omega⟩
    | tup xs=>
     rw [gJ] at h'
     cases e2:ba (xs.map (gU H n)) with
     | none=>rw [e2] at h';cases h'
     | some ds=>
      rw [e2] at h';cases h';obtain⟨a,b,c⟩:=oC (K:=K) (kq n) xs ds e2;exact⟨.tup (SqT.of e) a,by simpa [PyData.canLay0] using b,by simp only [PyData.depth];omega⟩
    | _=>cases h'
  | _=>cases h
def fz{K:W.Frag}{H:Hp}{n:Nat}{x:V}{d:PyData}(hn:n<=64)(h:gU H n x=some d):nv K H x d/\SeqAt.shaped d=true:=by
 obtain⟨a,b,c⟩:=kq (K:=K) n x d h;refine⟨a,?_⟩;unfold SeqAt.shaped;rw [b,decide_eq_true (show d.depth<=64 by omega)];rfl
def Nv(neg:Bool)(H:Hp)(Q:VK)(d:PyData):PyData->Prop:=λ e=>Q (.bl (if neg=true then !PyData.eqv d e else PyData.eqv d e)) H
def DB(H:Hp)(Q:VK)(d e:PyData):Nv true H Q d e=Q (.bl (!PyData.eqv d e)) H:=rfl
def DC(H:Hp)(Q:VK)(d e:PyData):Nv false H Q d e=Q (.bl (PyData.eqv d e)) H:=rfl
def Oe(neg:Bool)(y:V)(H:Hp)(Q:VK):PyData->Prop:=λ d=>aH (gU H 6 y) (Nv neg H Q d)
def Mw(neg:Bool)(y:V)(H:Hp)(Q:VK)(d:PyData):Oe neg y H Q d=aH (gU H 6 y) (Nv neg H Q d):=rfl
def qEq(neg:Bool):R2:=λ x y H Q=>if Nj x y=true then Q (.bl (if neg=true then !decide (x=y) else decide (x=y))) H else aH (gU H 6 x) (Oe neg y H Q)
def wm(neg:Bool)(p:Addr)(x:V)(H:Hp)(Q:VK):qEq neg x (.ref p) H Q=aH (gU H 6 x) (Oe neg (.ref p) H Q):=by
 show (if Nj x (.ref p)=true then _ else _)=_
 rw [RH (by cases x<;>exact Rw)]
def pf(i:Int)(j:Int)(H:Hp)(Q:VK):qEq false (V.int i) (V.int j) H Q=Q (.bl (decide (i=j))) H:=by
 have e:decide (((V.int i):V)=(V.int j))=decide (i=j):=by simp
 show Q (.bl (if false=true then !decide ((V.int i)=(V.int j)) else decide ((V.int i)=(V.int j)))) H=_
 rw [e];rfl
def pd(i:Int)(j:Int)(H:Hp)(Q:VK):qEq true (V.int i) (V.int j) H Q=Q (.bl (!decide (i=j))) H:=by
 have e:decide (((V.int i):V)=(V.int j))=decide (i=j):=by simp
 show Q (.bl (if true=true then !decide ((V.int i)=(V.int j)) else decide ((V.int i)=(V.int j)))) H=_
 rw [e];rfl
def tS(i:Bool)(j:Bool)(H:Hp)(Q:VK):qEq false (V.bl i) (V.bl j) H Q=Q (.bl (decide (i=j))) H:=by
 have e:decide (((V.bl i):V)=(V.bl j))=decide (i=j):=by simp
 show Q (.bl (if false=true then !decide ((V.bl i)=(V.bl j)) else decide ((V.bl i)=(V.bl j)))) H=_
 rw [e];rfl
def tP(i:Bool)(j:Bool)(H:Hp)(Q:VK):qEq true (V.bl i) (V.bl j) H Q=Q (.bl (!decide (i=j))) H:=by
 have e:decide (((V.bl i):V)=(V.bl j))=decide (i=j):=by simp
 show Q (.bl (if true=true then !decide ((V.bl i)=(V.bl j)) else decide ((V.bl i)=(V.bl j)))) H=_
 rw [e];rfl
def pe(i:Str)(j:Str)(H:Hp)(Q:VK):qEq false (V.str i) (V.str j) H Q=Q (.bl (decide (i=j))) H:=by
 have e:decide (((V.str i):V)=(V.str j))=decide (i=j):=by simp
 show Q (.bl (if false=true then !decide ((V.str i)=(V.str j)) else decide ((V.str i)=(V.str j)))) H=_
 rw [e];rfl
def pb(i:Str)(j:Str)(H:Hp)(Q:VK):qEq true (V.str i) (V.str j) H Q=Q (.bl (!decide (i=j))) H:=by
 have e:decide (((V.str i):V)=(V.str j))=decide (i=j):=by simp
 show Q (.bl (if true=true then !decide ((V.str i)=(V.str j)) else decide ((V.str i)=(V.str j)))) H=_
 rw [e];rfl
section
variable {X:Cx}
def cV(hu:X.A.units+64 < cLine):OpR X (compareOp .Eq) (qEq false):=by
 refine(OJ.or (Lo hu)).mono λ x y H Q h=>?_;unfold qEq at h;split at h
 ·rename_i hs;exact .inl ⟨hs,h⟩
 obtain⟨d,e1,h⟩:=ai h;obtain⟨e,e2,h⟩:=ai h;obtain⟨a,b⟩:=fz (K:=X.K) (by decide) e1;obtain⟨a',b'⟩:=fz (K:=X.K) (by decide) e2;exact .inr ⟨d,e,a,a',b,b',h⟩
def dk(hu:X.A.units+64 < cLine):OpR X (compareOp .NotEq) (qEq true):=by
 refine(OG.or (Lk hu)).mono λ x y H Q h=>?_;unfold qEq at h;split at h
 ·rename_i hs;exact .inl ⟨hs,h⟩
 obtain⟨d,e1,h⟩:=ai h;obtain⟨e,e2,h⟩:=ai h;obtain⟨a,b⟩:=fz (K:=X.K) (by decide) e1;obtain⟨a',b'⟩:=fz (K:=X.K) (by decide) e2;exact .inr ⟨d,e,a,a',b,b',h⟩
end
def JA(i j:Int):PyData.eqv (.int i) (.int j)=decide (i=j):=Bool.beq_eq_decide_eq i j
def eR(xs ys:List PyData):PyData.eqv (.tuple xs) (.tuple ys)=PyData.eqvAll xs ys:=by simp only [PyData.eqv]
def EA(xs ys:List PyData):PyData.eqv (.list xs) (.list ys)=PyData.eqvAll xs ys:=by simp only [PyData.eqv]
def cK:PyData.eqvAll [] []=true:=by simp only [PyData.eqvAll]
def bL(x y:PyData)(xs ys:List PyData):PyData.eqvAll (x::xs) (y::ys)=(PyData.eqv x y && PyData.eqvAll xs ys):=by simp only [PyData.eqvAll]
def uW(x:PyData)(xs:List PyData):PyData.eqvAll (x::xs) []=false:=by simp only [PyData.eqvAll]
def EB(x:PyData)(xs:List PyData):PyData.eqvAll [] (x::xs)=false:=by simp only [PyData.eqvAll]
def dM:∀ ns ms:List Int,PyData.eqvAll (ns.map PyData.int) (ms.map PyData.int)=decide (ns=ms)
 | [],[]=>by rw [Vg,cK];rfl
 | [],_::_=>by rw [Vg,Sh,EB];rfl
 | _::_,[]=>by rw [Vg,Sh,uW];rfl
 | i::r,j::t=>by
  rw [Sh,Sh,bL,JA,dM r t]
  by_cases h:i=j<;>by_cases h2:r=t<;>simp [h,h2]
def JO(i j:Int):Oy i j=(0 < j/\j < 1073741824):=rfl
def Nd(i j:Int)(h:-18446744073709551616 < i)(h':i < 18446744073709551616):pI i j=True:=eq_true (.inl ⟨by omega,by omega⟩)
def Ks(n:Nat)(h:n<=1000):(n<=sizeLine)=True:=eq_true (Ue (qd h))
def Kr(n:Nat)(h:n<=1000):(n < sizeLine)=True:=eq_true (qd h)
def Ext.of{H H':Hp}(h:∀ a,(H a).isSome=true->H' a=H a):Ext H H':=⟨h,λ K a xs q=>by
 have s:pF H H':=λ b o e=>(h b (by rw [e];rfl)).trans e;exact s.seq q⟩
def Ext.same{H H':Hp}(h:Ext H H'):pF H H':=λ b o e=>(h.1 b (by rw [e];rfl)).trans e
def pF.ext{H H':Hp}(h:pF H H'):Ext H H':=Ext.of λ a q=>by
 cases e:H a with
 | none=>rw [e] at q;cases q
 | some o=>exact h a o e
def Ext.refl(H:Hp):Ext H H:=(pF.refl H).ext
def Ext.trans{H H1 H2:Hp}(a:Ext H H1)(b:Ext H1 H2):Ext H H2:=(a.same.trans b.same).ext
def Ext.new{H:Hp}{p:Addr}{o:HO}(h:H p=none):Ext H (upd H p o):=(Cy h).ext
def Ext.put{H H1:Hp}{p:Addr}{o:HO}(a:Ext H H1)(h:H p=none):Ext H (upd H1 p o):=pF.ext λ b u e=>by
 rw [ah (cg e h)];exact a.same b u e
def Ext.free{H H1:Hp}{p:Addr}(a:Ext H H1)(h:H1 p=none):H p=none:=a.same.free h
def Ext.at{H H1:Hp}{p:Addr}{o:HO}(a:Ext H H1)(h:H p=some o):H1 p=some o:=a.same _ _ h
def yD{xs:List V}{i:Int}{k:V->Prop}(h0:0<=i)(h1:i < xs.length)(h:∀ v∈xs,k v):aH (atI xs i) k:=by
 obtain⟨v,e,m⟩:=Fy xs i h0 h1;rw [e];exact h v m
def Q4(CX:CXT)(P:Program)(w:World)(K:W.Frag)(mg:Str->Option Value)(base:Heap)(N:List Str)(qual:Str)(scope:Scope)(f:Addr)(cd:Value)(A:Around)(outer:List Env)(s:Shared)(H:Hp)(E:XK):(EZ CX P w K mg base N qual scope f cd A outer s H E).K=K:=rfl
def iQ:∀ {a b:List Char},a.map Char.toNat=b.map Char.toNat->a=b
 | [],[],_=>rfl
 | [],_::_,h=>by cases h
 | _::_,[],h=>by cases h
 | x::r,y::q,h=>by
  simp only [Sh,UY] at h
  have e:x=y:=by
   have z:x.val.toNat=y.val.toNat:=h.1;exact Char.ext (UInt32.toNat_inj.mp z)
  rw [e,iQ h.2]
def rA(a b:String):(Str.ofString a=Str.ofString b)=(a=b):=by
 refine propext ⟨λ h=>?_,λ h=>by rw [h]⟩;rw [Str.ofString_eq_toList,Str.ofString_eq_toList] at h;have e:(a.toList.map Char.toNat).toArray=(b.toList.map Char.toNat).toArray:=SA Str.cps h;have e2:=iQ (SA Array.toList e);exact String.ext e2
def isW(H:Hp):V->Option Bool
 | .int _=>some true
 | .bl _=>some false
 | .non=>some false
 | .str _=>some false
 | .ref p=>((H p).bind tyO).map λ _=>false
 | _=>none
def Eh(H:Hp)(i:Int):isW H (.int i)=some true:=rfl
def Jk(H:Hp)(i:Bool):isW H (.bl i)=some false:=rfl
def Eg(H:Hp):isW H .non=some false:=rfl
def Ef(H:Hp)(i:Str):isW H (.str i)=some false:=rfl
def jU(H:Hp)(p:Addr):isW H (.ref p)=((H p).bind tyO).map λ _=>false:=rfl
def jb{H:Hp}{p:Addr}{b:Bool}(h:isW H (.ref p)=some b):b=false/\∃ o,H p=some o/\(tyO o=some "list" \/ tyO o=some "tuple" \/ tyO o=some "dict"):=by
 rw [jU] at h
 cases e:H p with
 | none=>rw [e] at h;cases h
 | some o=>
  rw [e] at h;have h':(tyO o).map (λ _=>false)=some b:=h
  cases e2:tyO o with
  | none=>rw [e2] at h';cases h'
  | some t=>
   rw [e2] at h';cases h';refine⟨rfl,o,rfl,?_⟩
   cases o with
   | lst xs=>exact .inl rfl
   | tup xs=>exact .inr (.inl rfl)
   | dK xs=>exact .inr (.inr rfl)
   | dT xs=>exact .inr (.inr rfl)
   | frz ob u=>cases u with
    | lst xs=>exact .inl rfl
    | _=>cases e2
   | _=>cases e2
def ME(t:TE):Prop:=∀ σ H (Q Q':VK),(∀ v H,Q v H->Q' v H)->t σ H Q->t σ H Q'
def MT(t:TT):Prop:=∀ σ H (Q Q':Bool->Hp->Prop),(∀ b H,Q b H->Q' b H)->t σ H Q->t σ H Q'
def MR(r:R2):Prop:=∀ x y H (Q Q':VK),(∀ v H,Q v H->Q' v H)->r x y H Q->r x y H Q'
def gg{α:Type}{o:Option α}{k k':α->Prop}(m:∀ x,k x->k' x)(h:aH o k):aH o k':=by
 obtain⟨x,e,q⟩:=ai h;rw [e];exact m x q
def Fm{i:Nat}:ME (Nf i):=λ σ H Q Q' m ⟨v,e,q⟩=>⟨v,e,m _ _ q⟩
def QS{v:V}:ME (tC v):=λ σ H Q Q' m q=>m _ _ q
def OQ{r:R2}{a b:TE}(hr:MR r)(ha:ME a)(hb:ME b):ME (tOp r a b):=λ σ H Q Q' m q=>ha σ H _ _ (λ _ _ q=>hb σ _ _ _ (λ _ _ q=>hr _ _ _ _ _ m q) q) q
def Dk:MR xn:=λ x y H Q Q' m ⟨e,q⟩=>⟨e,m _ _ q⟩
def yH{t:TE}(h:ME t):MT (BW t):=λ σ H Q Q' m q=>h σ H _ _ (λ _ _ ⟨k,e,q⟩=>⟨k,e,m _ _ q⟩) q
def Gz{c:TT}{tb:TS}{nx:St->Hp->Prop}{rt:VK}{bk ct:St->Hp->Prop}{σ:St}{H:Hp}(mono:MT c)(Pv:Nat->St->Hp->Prop)(m0:Nat)(h0:Pv m0 σ H)
  (hs:∀ m σ H,Pv m σ H->c σ H (kWh tb nx rt Pv m σ)):xx c tb ⟨nx,rt,bk,ct⟩ σ H:=GA Pv m0 h0 (λ σ H Q Q'=>mono σ H Q Q') hs
def gD:∀ {ns ms:List Int},ns.map V.int=ms.map V.int->ns=ms
 | [],[],_=>rfl
 | [],_::_,h=>by cases h
 | _::_,[],h=>by cases h
 | i::r,j::t,h=>by
  simp only [Sh,UY,V.int.injEq] at h;rw [h.1,gD h.2]
def dR(F:List Int->Prop):List V->Prop:=λ xs=>∃ ns,xs=ns.map V.int/\F ns
def yI(F:List Int->Prop)(ns:List Int):dR F (ns.map V.int)=F ns:=propext ⟨λ ⟨ms,e,h⟩=>by rw [gD e];exact h,λ h=>⟨ns,rfl,h⟩⟩
def AK(F:List Int->Prop)(a:Int):dR F [.int a]=F [a]:=yI F [a]
def kP{xs:List V}{i:Int}{k:V->Prop}(P:Int->Prop)(h0:0<=i)(h1:i < xs.length)(hx:∀ v∈xs,∃ j,v=.int j/\P j)(h:∀ j,P j->k (.int j)):aH (atI xs i) k:=yD h0 h1 λ v hv=>by
 obtain⟨j,rfl,hj⟩:=hx v hv;exact h j hj
def vb(i j:Int)(h:i.natAbs < 2 ^ 256)(h':j.natAbs < 2 ^ 256):Gv i j=True:=eq_true ⟨h,h'⟩
def EF(xs:List V)(z:Int)(h:0<=z):mx xs none (some z)=xs.take z.toNat:=by
 unfold mx;rw [HT.sIx_none,drop_zero,Nat.sub_zero];obtain⟨n,rfl⟩:=Int.eq_ofNat_of_zero_le h;rw [HT.sIx_nat]
 show _=xs.take n
 rcases Vy n xs.length with q|q
 ·rw [UU q]
 ·rw [UO q,SO (Rl _),SO q]
def Q0(lo hi:Option Int)(H:Hp)(Q:VK):List V->Prop:=λ xs=>∀ p,H p=none->Q (.ref p) (upd H p (.lst (mx xs lo hi)))
def P5:V->Option Int->Option Int->Hp->VK->Prop:=λ x lo hi H Q=>match x with
 | .ref a=>aH (aA H a) (Q0 lo hi H Q)
 | _=>False
def QH{X:Cx}:SlR X P5:=GY.mono λ x lo hi H Q h=>by
 unfold P5 at h;split at h
 ·rename_i a;obtain⟨xs,e,q⟩:=ai h;exact⟨a,xs,rfl,SqL.of (bj e),q⟩
 ·exact h.elim
def NX(r:V->Option Int->Option Int->Hp->VK->Prop)(x:V)(l:Option Int)(Q:VK):Option Int->Hp->Prop:=λ u H=>r x l u H Q
def L8(r:V->Option Int->Option Int->Hp->VK->Prop)(x:V)(l:Option Int)(Q:VK)(u:Option Int)(H:Hp):NX r x l Q u H=r x l u H Q:=rfl
def NY(r:V->Option Int->Option Int->Hp->VK->Prop)(th:TO)(σ:St)(x:V)(Q:VK):Option Int->Hp->Prop:=λ l H=>th σ H (NX r x l Q)
def L9(r:V->Option Int->Option Int->Hp->VK->Prop)(th:TO)(σ:St)(x:V)(Q:VK)(l:Option Int)(H:Hp):NY r th σ x Q l H=th σ H (NX r x l Q):=rfl
def Qe(r:V->Option Int->Option Int->Hp->VK->Prop)(tl th:TO)(σ:St)(Q:VK):VK:=λ x H=>tl σ H (NY r th σ x Q)
def Ma(r:V->Option Int->Option Int->Hp->VK->Prop)(tl th:TO)(σ:St)(Q:VK)(x:V)(H:Hp):Qe r tl th σ Q x H=tl σ H (NY r th σ x Q):=rfl
def OS(r:V->Option Int->Option Int->Hp->VK->Prop)(te:TE)(tl th:TO)(σ:St)(H:Hp)(Q:VK):tSl r te tl th σ H Q=te σ H (Qe r tl th σ Q):=rfl
def Ag(σ:St)(H:Hp)(Q:Option Int->Hp->Prop):yo σ H Q=Q none H:=rfl
def Kx(Q:Option Int->Hp->Prop):VK:=λ x H=>∃ i,x=.int i/\Q (some i) H
def IA(Q:Option Int->Hp->Prop)(i:Int)(H:Hp):Kx Q (.int i) H=Q (some i) H:=propext ⟨λ ⟨_,e,q⟩=>by cases e;exact q,λ q=>⟨i,rfl,q⟩⟩
def HJ(t:TE)(σ:St)(H:Hp)(Q:Option Int->Hp->Prop):J6 t σ H Q=t σ H (Kx Q):=rfl
def iW(o:HO)(H:Hp)(Q:VK):Prop:=∀ (p:Addr) (H':Hp),H p=none->Ext H H'->H' p=some o->Q (.ref p) H'
def iW.to{o:HO}{H:Hp}{Q:VK}(h:iW o H Q):∀ p,H p=none->Q (.ref p) (upd H p o):=λ p hp=>h p _ hp (Ext.new hp) aq
def kQT(Q:VK):List V->Hp->Prop:=λ xs H=>xs.length<=sizeLine/\iW (.tup xs) H Q
def Pc(Q:VK)(xs:List V)(H:Hp):kQT Q xs H=(xs.length<=sizeLine/\iW (.tup xs) H Q):=rfl
def kQL(Q:VK):List V->Hp->Prop:=λ xs H=>xs.length<=sizeLine/\iW (.lst xs) H Q
def Pd(Q:VK)(xs:List V)(H:Hp):kQL Q xs H=(xs.length<=sizeLine/\iW (.lst xs) H Q):=rfl
def P4(t:TA):TE:=λ σ H Q=>t σ H (kQT Q)
def LR(t:TA)(σ:St)(H:Hp)(Q:VK):P4 t σ H Q=t σ H (kQT Q):=rfl
def P7(t:TA):TE:=λ σ H Q=>t σ H (kQL Q)
def LW(t:TA)(σ:St)(H:Hp)(Q:VK):P7 t σ H Q=t σ H (kQL Q):=rfl
section
variable {X:Cx}{es:List Expr}{t:TA}{pos:Pos}
def Hm{x1}(h:PA X es t):PE X (.Tuple es x1 pos) (P4 t):=by
 intro pins s σ H Q I hq;refine wpAny_Tuple_spliced (thn (h pos pins s σ H _ I hq) λ us s1 ⟨xs,H1,I1,r,z,q⟩=>⟨by rw [←r.length];exact z,?_⟩);have hf:H1 s1.heap.objs.size=none:=I1.hok.fresh (Rl _);refine⟨.ref s1.heap.objs.size,upd H1 s1.heap.objs.size (.tup xs),I1.laid (t':=s1.toks) (λ b u e=>Rc _ e) (Rl _) ?_,rfl,q.to _ hf⟩;exact⟨z,us,r,⟨_,Rn _ rfl,rfl,_,rfl⟩⟩
def Hn(h:PA X es t):PE X (.List es pos) (P7 t):=by
 intro pins s σ H Q I hq;refine wpAny_List_spliced (thn (h pos pins s σ H _ I hq) λ us s1 ⟨xs,H1,I1,r,z,q⟩=>⟨by rw [←r.length];exact z,?_⟩);have hf:H1 s1.heap.objs.size=none:=I1.hok.fresh (Rl _);refine⟨.ref s1.heap.objs.size,upd H1 s1.heap.objs.size (.lst xs),I1.laid (t':=s1.toks) (λ b u e=>Rc _ e) (Rl _) ?_,rfl,q.to _ hf⟩;exact⟨z,us,0,r,Rn _ rfl⟩
end
def kN(f:List V->HO)(H:Hp)(Q:VK):List V->Prop:=λ ys=>iW (f ys) H Q
def QX(f:List V->HO)(H:Hp)(Q:VK)(ys:List V):kN f H Q ys=iW (f ys) H Q:=rfl
def Gd(xs:List V)(H:Hp)(Q:VK):Prop:=match xs with
 | [.ref p]=>aH (cZ H p) (kN .lst H Q)
 | _=>False
def Ii(p:Addr)(H:Hp)(Q:VK):Gd [.ref p] H Q=aH (cZ H p) (kN .lst H Q):=rfl
def du{X:Cx}:cu X (.type "list") Gd:=wR.mono λ xs H Q h=>by
 unfold Gd at h;split at h
 ·exact gg (λ _ q=>q.to) h
 ·exact h.elim
def kNT(p:Addr)(H:Hp)(Q:VK):HO->Prop:=λ o=>match o with
 | .lst ys=>iW (.tup ys) H Q
 | .tup _=>Q (.ref p) H
 | _=>False
def IC(p:Addr)(H:Hp)(Q:VK)(ys:List V):kNT p H Q (.lst ys)=iW (.tup ys) H Q:=rfl
def ya(xs:List V)(H:Hp)(Q:VK):Prop:=match xs with
 | [.ref p]=>aH (H p) (kNT p H Q)
 | _=>False
def Ds(p:Addr)(H:Hp)(Q:VK):ya [.ref p] H Q=aH (H p) (kNT p H Q):=rfl
def ik{X:Cx}:cu X (.type "tuple") ya:=t6.mono λ xs H Q h=>by
 unfold ya at h;split at h
 ·refine gg (λ o q=>?_) h;unfold kNT at q;unfold Gg;split at q
  ·exact q.to
  ·exact q
  ·exact q.elim
 ·exact h.elim
def Nr(xs:List V)(H:Hp)(Q:VK):List V->Prop:=λ ys=>xs.length+ys.length<=sizeLine/\iW (.lst (xs++ys)) H Q
def Ml(xs:List V)(H:Hp)(Q:VK)(ys:List V):Nr xs H Q ys=(xs.length+ys.length<=sizeLine/\iW (.lst (xs++ys)) H Q):=rfl
def N7(b:Addr)(H:Hp)(Q:VK):List V->Prop:=λ xs=>aH (aA H b) (Nr xs H Q)
def Mm(b:Addr)(H:Hp)(Q:VK)(xs:List V):N7 b H Q xs=aH (aA H b) (Nr xs H Q):=rfl
def Nl:R2:=λ x y H Q=>match x,y with
 | .ref l,.ref b=>aH (aA H l) (N7 b H Q)
 | _,_=>False
def Fo(l b:Addr)(H:Hp)(Q:VK):Nl (.ref l) (.ref b) H Q=aH (aA H l) (N7 b H Q):=rfl
def nK{X:Cx}:OpR X (binaryOp .Add) Nl:=Lp.mono λ x y H Q h=>by
 unfold Nl at h;split at h
 ·rw [LQ];exact gg (λ _ q=>gg (λ _ q=>⟨q.1,q.2.to⟩) q) h
 ·exact h.elim
def kNS(lo hi:Option Int)(H:Hp)(Q:VK):List V->Prop:=λ xs=>iW (.lst (mx xs lo hi)) H Q
def Pg(lo hi:Option Int)(H:Hp)(Q:VK)(xs:List V):kNS lo hi H Q xs=iW (.lst (mx xs lo hi)) H Q:=rfl
def nSl:V->Option Int->Option Int->Hp->VK->Prop:=λ x lo hi H Q=>match x with
 | .ref a=>aH (aA H a) (kNS lo hi H Q)
 | _=>False
def O2(a:Addr)(lo hi:Option Int)(H:Hp)(Q:VK):nSl (.ref a) lo hi H Q=aH (aA H a) (kNS lo hi H Q):=rfl
def JU{X:Cx}:SlR X nSl:=QH.mono λ x lo hi H Q h=>by
 unfold nSl at h;split at h
 ·exact gg (λ _ q=>q.to) h
 ·exact h.elim
def PE.mono{X:Cx}{e:Expr}{t t':TE}(h:PE X e t)(m:∀ σ H Q,t' σ H Q->t σ H Q):PE X e t':=λ pins s σ H Q I q=>h pins s σ H Q I (m _ _ _ q)
def Kp:TE:=λ _ H Q=>iW (.dK []) H Q
def Ij(σ:St)(H:Hp)(Q:VK):Kp σ H Q=iW (.dK []) H Q:=rfl
def iE{X:Cx}{pos:Pos}:PE X (.Dict [] [] pos) Kp:=CY.mono λ _ _ _ h=>h.to
section
variable {prog:Program}{w:World}{A:Around}{E:Value->Shared->Prop}{s:Shared}
end
section
variable {X:Cx}{pos:Pos}
end
def Itv(K:W.Frag)(a:Addr)(xs:List V):It:=
 ⟨λ i H=>SqL K H a xs/\i < xs.length,λ i H x H'=>H'=H/\xs[xs.length - 1 - i]? = some x,λ i _=>i=xs.length⟩
def Cr{P:Program}{w:World}{K:W.Frag}{tg:Expr}(a it:Addr)(xs:List V):BS P w K tg (Itv K a xs) [it] it (λ i h=>i<=xs.length/\h.IsRevIter it a ((xs.length:Int) - 1 - (i:Int))) where
 mem:=by simp
 obj:=λ i h st b hb=>by
  have e:b=it:=by simpa using hb
  subst e;obtain⟨_,o,e,c,d⟩:=st;exact⟨o,e,λ v z=>by rw [d] at z;cases z⟩
 keep:=λ i h h' st k=>⟨st.1,st.2.at λ o e=>k it (by simp) o e⟩
 item:=by
  intro X hP hw hK hc i pins s σ H E I hf st hg;subst hP hw hK;obtain⟨hq,a3⟩:=hg;obtain⟨its,rv,p,hz⟩:=I.list hq;have hx:xs[xs.length - 1 - i]? = some (xs[xs.length - 1 - i]'(by omega)):=Rb (by omega);obtain⟨u,hu,ru⟩:=rv.get hx;obtain⟨f0,f1,f2,f3,f4,f5⟩:=hf it (by simp);have aS:=st.2;rw [show ((xs.length:Int) - 1 - (i:Int))=((xs.length - 1 - i:Nat):Int) by omega] at aS;refine wpAny_pyNext_rev_item aS p.isList (x:=u) (by simpa using hu) λ h' aX sb=>?_;have I1:Inv X pins σ H { s with heap:=h' }:=I.turned (t':=s.toks) (λ b o hb e=>(sb.2 b hb).trans e) f0 f1 f3 f4 f5;obtain⟨o,e,c,d⟩:=id aX;rw [show (((xs.length - 1 - i:Nat):Int) - 1)=(xs.length:Int) - 1 - ((i+1:Nat):Int) by omega] at aX;exact⟨u,rfl,B8 (s:={ s with heap:=h' }) e c d (by decide) ⟨_,H,I1,ru,⟨rfl,hx⟩,⟨a3,aX⟩,λ b hb=>(hf b hb).1⟩⟩
 done:=by
  intro X hP hw hK hc i pins s σ H E I hf st hg;subst hP hw hK;have e:i=xs.length:=hg;subst e;obtain⟨f0,f1,f2,f3,f4,f5⟩:=hf it (by simp);have aS:=st.2;rw [show ((xs.length:Int) - 1 - (xs.length:Int))=-1 by omega] at aS;exact wpAny_pyNext_rev_end (I.ok.hd hc) aS λ h' eb=>⟨rfl,I.turned (t':=s.toks) (λ b o hb e=>eb b o hb e) f0 f1 f3 f4 f5⟩
 self:=λ _ _ _ _ _ st h=>wpAny_pyIter_revIter st.2 h
def NZ(K:W.Frag)(a:Addr)(H:Hp)(R:It->Hp->Prop):List V->Prop:=λ xs=>R (Itv K a xs) H
def Mc(K:W.Frag)(a:Addr)(H:Hp)(R:It->Hp->Prop)(xs:List V):NZ K a H R xs=R (Itv K a xs) H:=rfl
def Np(K:W.Frag)(R:It->Hp->Prop):List V->Hp->Prop:=λ vs H=>match vs with
 | [.ref a]=>aH (aA H a) (NZ K a H R)
 | _=>False
def Md(K:W.Frag)(R:It->Hp->Prop)(a:Addr)(H:Hp):Np K R [.ref a] H=aH (aA H a) (NZ K a H R):=rfl
def Qx(K:W.Frag)(ta:TA):TI:=λ σ H R=>ta σ H (Np K R)
def MQ(K:W.Frag)(ta:TA)(σ:St)(H:Hp)(R:It->Hp->Prop):Qx K ta σ H R=ta σ H (Np K R):=rfl
section
variable {X:Cx}{tg:Expr}
def Fh{a:Expr}{ta:TA}{p pos:Pos}(hg:Gl X "reversed")(hm:X.mg "reversed"=none)(ha:PA X [a] ta)(hs:starEach [a] X.env=[(false,eval a X.env)]:=by rfl):PI X tg (.Call (.Name "reversed" p) [a] [] pos) (Qx X.K ta):=by
 intro pins s σ H R I h;refine Call_ (eN I hg hm (show bootBuiltins "reversed"=some (.type "reversed") by decide +kernel) (PyProof.Rows.callWith_type1 (thn (ha pos pins s σ H _ I h) λ us s1 ⟨vs,H1,I1,r1,q1⟩=>?_) hs rfl));unfold Np at q1;split at q1
 ·rename_i b;obtain⟨xs,e,q⟩:=ai q1
  cases r1 with
  | cons r rr=>
   cases rr;cases r;obtain⟨its,rv,pl,hz⟩:=I1.list (SqL.of (bj e));refine call_reversed_list pl.isList ?_;have hsz:(its.toArray.size:Int)=(xs.length:Int):=by rw [←rv.length.symm];simp
   have I2:Inv X pins σ H1 { s1 with heap:=s1.heap.push (revObj b ((its.toArray.size:Int) - 1)) }:=I1.kept (t':=s1.toks) λ b o e=>Rc _ e;have hit:(s1.heap.push (revObj b ((its.toArray.size:Int) - 1))).IsRevIter s1.heap.objs.size b ((xs.length:Int) - 1 - ((0:Nat):Int)):=⟨_,Rn _ rfl,rfl,by rw [hsz];simp [revObj]⟩;refine wpAny_pyIter_revIter hit ⟨s1.heap.objs.size,[s1.heap.objs.size],_,_,H1,rfl,I2,Cr b _ xs,⟨So _,hit⟩,λ c hb=>?_,q⟩;have e:c=s1.heap.objs.size:=by simpa using hb
   subst e;exact I1.fpOk (Rl _) (I1.hok.fresh (Rl _))
 ·exact q1.elim
end
def yL{K:W.Frag}{a:Addr}{xs:List V}{g:TG}{tb:TS}{nx:St->Hp->Prop}{rt:VK}{bk ct:St->Hp->Prop}{σ:St}{H:Hp}(Pv:Nat->St->Hp->Prop)(h0:Pv 0 σ H)(hl:∀ i σ H,i<=xs.length->Pv i σ H->SqL K H a xs)
  (hs:∀ i x σ H,i < xs.length->xs[xs.length - 1 - i]? = some x->Pv i σ H->g x σ H (rW tb ⟨Pv (i+1),rt,nx,Pv (i+1)⟩)) (hd:∀ σ H,Pv xs.length σ H->nx σ H):FA g tb ⟨nx,rt,bk,ct⟩ σ (Itv K a xs) H:=by
 refine⟨λ i m σ H=>m=xs.length - i/\i<=xs.length/\Pv i σ H,⟨xs.length,by simp,So _,h0⟩,?_⟩;rintro i m σ H ⟨rfl,hi,p⟩;have q:=hl i σ H hi p
 by_cases hlt:i < xs.length
 ·refine .inr ⟨⟨q,hlt⟩,Pv (i+1),λ σ' H' p'=>⟨xs.length - (i+1),by omega,rfl,hlt,p'⟩,λ x H' y=>?_⟩;obtain⟨e,y⟩:=y;subst e;exact hs i x σ _ hlt y p
 ·have e:i=xs.length:=by omega
  subst e;exact .inl ⟨rfl,hd σ H p⟩
def lC:∀ (n:Nat) (ns:List Int) (val:Nat->Int),(∀ i,val i=ns.getD i 0)->n<=ns.length->preSum val n=(ns.take n).sum
 | 0,ns,val,h,hl=>by simp [preSum]
 | n+1,ns,val,h,hl=>by
  have ih:=lC n ns val h (by omega)
  have e:ns.take (n+1)=ns.take n++[ns.getD n 0]:=by
   rw [U8,Rb (by omega)];simp [List.getD,Rb (show n < ns.length by omega)]
  rw [preSum,ih,e,List.sum_append,h];simp
def Gh(H:Hp)(Q:VK):List Int->Prop:=λ ns=>Q (.int ns.sum) H
def Ir(H:Hp)(Q:VK)(ns:List Int):Gh H Q ns=Q (.int ns.sum) H:=rfl
def NK:List V->Hp->VK->Prop:=λ vs H Q=>match vs with
 | [.ref p]=>aH (aA H p) (dR (Gh H Q))
 | _=>False
def LS(p:Addr)(H:Hp)(Q:VK):NK [.ref p] H Q=aH (aA H p) (dR (Gh H Q)):=rfl
def Oq(F:List Bool->Prop):List V->Prop:=λ xs=>∃ bs,xs=bs.map V.bl/\F bs
def zh:∀ {ns ms:List Bool},ns.map V.bl=ms.map V.bl->ns=ms
 | [],[],_=>rfl
 | [],_::_,h=>by cases h
 | _::_,[],h=>by cases h
 | i::r,j::t,h=>by
  simp only [Sh,UY,V.bl.injEq] at h;rw [h.1,zh h.2]
def MG(F:List Bool->Prop)(bs:List Bool):Oq F (bs.map V.bl)=F bs:=propext ⟨λ ⟨ms,e,h⟩=>by rw [zh e];exact h,λ h=>⟨bs,rfl,h⟩⟩
def Gr(H:Hp)(Q:VK):List Bool->Prop:=λ bs=>Q (.bl (bs.all id)) H
def IS(H:Hp)(Q:VK)(bs:List Bool):Gr H Q bs=Q (.bl (bs.all id)) H:=rfl
def NO:List V->Hp->VK->Prop:=λ vs H Q=>match vs with
 | [.ref p]=>aH (aA H p) (Oq (Gr H Q))
 | _=>False
def LY(p:Addr)(H:Hp)(Q:VK):NO [.ref p] H Q=aH (aA H p) (Oq (Gr H Q)):=rfl
section
variable {X:Cx}
def gh(hc:X.calm=true):cu X (.builtin "sum") NK:=by
 intro pins s σ H vs us Q I r h;unfold NK at h;split at h
 ·rename_i p;obtain⟨xs,e,ns,rfl,q⟩:=ai h
  cases r with
  | cons r rr=>
   cases rr;cases r;obtain⟨its,rv,pl,hz⟩:=I.list (SqL.of (bj e));have aS:p < s.heap.objs.size:=by obtain⟨_,e,_⟩:=pl.isList;exact Rk e
   have hlen:its.length=ns.length:=by have:=rv.length;simpa using this.symm
   refine call_sum_walkAnyS (S0 pl.isList ⟨s.heap.objs.size,_,_,_,_,_,_,λ i=>ns.getD i 0,rfl,(Vp (show X.A.in1.handled=none from I.ok.hd hc) _ p (RC aS) its.toArray).toS,⟨⟨_,Rn _ rfl,rfl,rfl⟩,pl.isList.push _⟩,λ b hb=>?_,λ i v hP=>?_,λ s' t' hm=>?_⟩)
   ·rw [RT]
    rcases Rz.mp hb with rfl|hb
    ·exact Ss _
    ·rw [Rg.mp hb];exact T7 aS
   ·have hv:its[i]? = some v:=by simpa using hP
    have hi:i < ns.length:=by rw [←hlen];exact(Rf.mp hv).1
    obtain⟨u,hu,ru⟩:=rv.get (i:=i) (x:=.int (ns.getD i 0)) (by rw [Rq,Rb hi];simp [List.getD,Rb hi]);rw [hv] at hu;cases hu;exact ru
   ·obtain⟨hp,g,d,tk,os⟩:=s'
    have kp:∀ b o,s.heap.get? b=some o->hp.get? b=some o:=λ b o e=>hm.heap b o (λ aX=>by
     have:b=s.heap.objs.size:=by simpa using aX
     subst this;exact absurd (Rk e) (R9 _)) (Rc _ e)
    have e1:g=s.gens:=hm.gens;have e2:d=s.drawn:=hm.drawn;have e3:os=s.os:=hm.os;subst e1 e2 e3;refine⟨.int ns.sum,H,I.kept (t':=tk) kp,?_,q⟩;have es:=lC its.toArray.size ns (λ i=>ns.getD i 0) (λ _=>rfl) (by simp [hlen]);rw [show its.toArray.size=ns.length by simp [hlen],R6] at es;rw [show its.toArray.size=ns.length by simp [hlen],es];exact⟨t',rfl⟩
 ·exact h.elim
def BO(bs:List Bool):(List.range bs.length).all (λ i=>bs.getD i false)=bs.all id:=by
 rw [SE,Sr,Sr];refine⟨λ h x hx=>?_,λ h i hi=>?_⟩
 ·obtain⟨i,hi,e⟩:=Ti hx;have:=h i (RO.mpr hi)
  simpa [List.getD,Rb hi,e] using this
 ·have aS:=RO.mp hi;have:=h (bs[i]) (SQ aS)
  simpa [List.getD,Rb aS] using this
def eS(hc:X.calm=true):cu X (.builtin "all") NO:=by
 intro pins s σ H vs us Q I r h;unfold NO at h;split at h
 ·rename_i p;obtain⟨xs,e,bs,rfl,q⟩:=ai h
  cases r with
  | cons r rr=>
   cases rr;cases r;obtain⟨its,rv,pl,hz⟩:=I.list (SqL.of (bj e));have aX:p < s.heap.objs.size:=by obtain⟨_,e,_⟩:=pl.isList;exact Rk e
   have hlen:its.length=bs.length:=by have:=rv.length;simpa using this.symm
   refine call_all_walk (S0 pl.isList ⟨s.heap.objs.size,_,_,_,_,_,λ i=>bs.getD i false,rfl,Vp (show X.A.in1.handled=none from I.ok.hd hc) _ p (RC aX) its.toArray,⟨⟨_,Rn _ rfl,rfl,rfl⟩,pl.isList.push _⟩,λ i v s' Q' E' hP hQ=>?_,λ h' tk hk=>?_⟩)
   ·have hv:its[i]? = some v:=by simpa using hP
    have hi:i < bs.length:=by rw [←hlen];exact(Rf.mp hv).1
    obtain⟨u,hu,ru⟩:=rv.get (i:=i) (x:=.bl (bs.getD i false)) (by rw [Rq,Rb hi];simp [List.getD,Rb hi]);rw [hv] at hu;cases hu;have e2:v=.bool (bs.getD i false):=ru;subst e2;exact Sq hQ
   ·have kp:∀ b o,s.heap.get? b=some o->h'.get? b=some o:=λ b o e=>hk b o (λ aS=>by
     have:b=s.heap.objs.size:=by simpa using aS
     subst this;exact absurd (Rk e) (R9 _)) (Rc _ e)
    refine⟨.bl (bs.all id),H,I.kept (t':=tk) kp,?_,q⟩;rw [show its.toArray.size=bs.length by simp [hlen],BO];exact rfl
 ·exact h.elim
end
structure Src(prog:Program)(w:World)(it:Addr)(fr:List Addr)(st:Nat->Heap->Prop)(val:Nat->Option Value):Prop where
 mem:it∈fr
 there:∀ k h,st k h->∀ b∈fr,∃ o,h.get? b=some o
 keep:∀ k h h',st k h->(∀ b∈fr,∀ o,h.get? b=some o->h'.get? b=some o)->st k h'
 item:∀ (A:Around) k s v (Q:Value->Shared->Prop) (E:Value->Shared->Prop),st k s.heap->val k=some v->(∀ h',st (k+1) h'->Heap.SameBut it s.heap h'->Q v { s with heap:=h' })->wpAny (model prog w) A (Builtin.SmallTypes.nextOf (.ref it)) Q E s
 fin:∀ (A:Around) k s (Q:Value->Shared->Prop) (E:Value->Shared->Prop),A.handled=none->st k s.heap->val k=none->(∀ h' e,Heap.ExtBut it s.heap h'->(∃ o,h'.get? e=some o/\o.cls=.type "StopIteration")->E (.ref e) { s with heap:=h' })->wpAny (model prog w) A (Builtin.SmallTypes.nextOf (.ref it)) Q E s
def Cu{prog:Program}{w:World}(it l:Addr)(aS:l ≠ it)(xs:Array Value):Src prog w it [it,l] (λ k h=>h.IsListIter it l k/\h.IsList l xs) (λ k=>xs[k]?) where
 mem:=Rr
 there:=λ k h st b hb=>by
  rcases Rz.mp hb with e|hb
  ·obtain⟨o,q,_⟩:=st.1;exact⟨o,by rw [e];exact q⟩
  ·obtain⟨o,q,_⟩:=st.2;exact⟨o,by rw [Rg.mp hb];exact q⟩
 keep:=λ k h h' st q=>⟨st.1.at λ o e=>q it (by simp) o e,st.2.at λ o e=>q l (by simp) o e⟩
 item:=λ A k s v Q E st hv hQ=>wpAny_nextOf_list_item st.1 st.2 hv λ h' a b=>hQ h' ⟨a,st.2.extBut b.extBut aS⟩ b
 fin:=λ A k s Q E hh st hv hE=>wpAny_nextOf_list_end hh st.1 st.2 hv hE
section
variable {prog:Program}{w:World}{A:Around}{E:Value->Shared->Prop}{s:Shared}
def oZ{j t:Addr}{k:Nat}{xs:Array Value}{v:Value}{Q:Value->Shared->Prop}(hj:s.heap.IsTupleIter j t k)(ht:s.heap.IsTuple t xs)(hv:xs[k]? = some v)
  (hQ:∀ g,g.IsTupleIter j t (k+1)->Heap.SameBut j s.heap g->Q v { s with heap:=g }):wpAny (model prog w) A (Builtin.SmallTypes.nextOf (.ref j)) Q E s:=by
 obtain⟨oj,h0,h1,h2⟩:=id hj;obtain⟨ot,g0,_,n,g1⟩:=ht;unfold Builtin.SmallTypes.nextOf;refine wpAny_bind (wpAny_callSpecial?_slot (name:=Str.ofString "__next__") hj.typeIs F.slot_tuple_iterator_next (wpAny_call_entry F.slot_tuple_iterator_next hj.typeIs F.entry_tuple_iterator_next ?_ (F.args_tuple_iterator_next_1 _)));refine wpAny_bind (m:=field (.ref j) 0) (wpAny_field h0 h2 (x:=.ref t) rfl ?_)
 show wpAny _ _ (if (Value.ref t == Value.none)=true then _ else _) _ _ _
 rw [RH (show ¬ ((.ref t:Value) == .none)=true from Rw)];refine My (m:=field (.ref j) 1) (RX h0 h2 (x:=.int k 0) rfl ?_);refine My (m:=seqItems? (.ref t)) (RM g0 g1 ?_);simp only [Rt,hv];refine My (wpAny_setField h0 h2 (by simp) (Ri ⟨v,rfl,Ri (hQ _ ⟨_,R3 _ h0 (Obj.isFreed_of_fields (Obj.data_mapFields h2 _)),(Obj.cls_mapFields ..).trans h1,?_⟩ (VI ..))⟩));rw [Obj.data_mapFields h2];simp [rawInt]
def rB{j t:Addr}{k:Nat}{xs:Array Value}{Q:Value->Shared->Prop}(hh:A.handled=none)(hj:s.heap.IsTupleIter j t k)(ht:s.heap.IsTuple t xs)(hv:xs[k]? = none)
  (hE:∀ g e,Heap.ExtBut j s.heap g->(∃ o,g.get? e=some o/\o.cls=.type "StopIteration")->E (.ref e) { s with heap:=g }):wpAny (model prog w) A (Builtin.SmallTypes.nextOf (.ref j)) Q E s:=by
 obtain⟨oj,h0,h1,h2⟩:=id hj;obtain⟨ot,g0,_,n,g1⟩:=ht;unfold Builtin.SmallTypes.nextOf;refine wpAny_bind (wpAny_callSpecial?_slot (name:=Str.ofString "__next__") hj.typeIs F.slot_tuple_iterator_next (wpAny_call_entry F.slot_tuple_iterator_next hj.typeIs F.entry_tuple_iterator_next ?_ (F.args_tuple_iterator_next_1 _)));refine wpAny_bind (m:=field (.ref j) 0) (wpAny_field h0 h2 (x:=.ref t) rfl ?_)
 show wpAny _ _ (if (Value.ref t == Value.none)=true then _ else _) _ _ _
 rw [RH (show ¬ ((.ref t:Value) == .none)=true from Rw)];refine My (m:=field (.ref j) 1) (RX h0 h2 (x:=.int k 0) rfl ?_);refine My (m:=seqItems? (.ref t)) (RM g0 g1 ?_);simp only [Rt,hv];refine My (Um (My (wpAny_setField h0 h2 (by simp) (My (m:=newExc (.type "StopIteration") []) ?_))));simp only [newExc,newTuple];refine My (SR (My (m:=firstArgMember _ _) (wpAny_of_eq (a:=Value.none) (by first|rfl|(simp only [firstArgMember];rfl)) (SR ?_ (by size_fits)))) (by size_fits));simp only [raiseNew]
 refine My (wpAny_handled ?_);first|rw [show A.in1.handled=none from hh]|rw [hh]
 exact My (Ri (wpAny_throw (hE _ _ (((VI ..).extBut.push _).push _) ⟨_,Rn _ rfl,rfl⟩)))
def GX(it l:Addr)(aS:l ≠ it)(xs:Array Value):Src prog w it [it,l] (λ k h=>h.IsTupleIter it l k/\h.IsTuple l xs) (λ k=>xs[k]?) where
 mem:=Rr
 there:=λ k h st b hb=>by
  rcases Rz.mp hb with e|hb
  ·obtain⟨o,q,_⟩:=st.1;exact⟨o,by rw [e];exact q⟩
  ·obtain⟨o,q,_⟩:=st.2;exact⟨o,by rw [Rg.mp hb];exact q⟩
 keep:=λ k h h' st q=>⟨st.1.at λ o e=>q it (by simp) o e,st.2.at λ o e=>q l (by simp) o e⟩
 item:=λ A k s v Q E st hv hQ=>oZ st.1 st.2 hv λ h' a b=>hQ h' ⟨a,st.2.extBut b.extBut aS⟩ b
 fin:=λ A k s Q E hh st hv hE=>rB hh st.1 st.2 hv hE
structure fP(z TI TO i j:Addr)(f g:List Addr):Prop where
 ti:TI ≠ z/\TI ≠ TO/\TI ≠ i/\TI ≠ j
 zt:z ≠ TO
 zf:z ∉ f
 zg:z ∉ g
 tf:TO ∉ f
 tg:TO ∉ g
 ig:i ∉ g
 jf:j ∉ f
variable {z TI TO i j:Addr}{f g:List Addr}{ti tj:Nat->Heap->Prop}{vi vj:Nat->Option Value}{k m:Nat}{x y a b:Value}
def bc{p q:Addr}{l:List Addr}(hp:p∈l)(hq:q ∉ l):p ≠ q:=λ e=>hq (e ▸ hp)
def Src.but{prog:Program}{w:World}{it:Addr}{fr:List Addr}{st:Nat->Heap->Prop}{val:Nat->Option Value}(S:Src prog w it fr st val){k:Nat}{c:Addr}{h h':Heap}(q:st k h)(e:Heap.ExtBut c h h')(hc:c ∉ fr):st k h':=
 S.keep k h h' q λ b hb o ho=>e b o (bc hb hc) ho
def zC(S:Src prog w i f ti vi)(T:Src prog w j g tj vj)(D:fP z TI TO i j f g){Q:Value->Shared->Prop}
  (hz:IsZip s.heap z TI TO .none) (aX:IsPair s.heap TI (.ref i) (.ref j)) (a3:IsPair s.heap TO a b) (hi:ti k s.heap) (hj:tj m s.heap) (hx:vi k=some x) (hy:vj m=some y)
  (hQ:∀ h',IsZip h' z TI TO (rawInt s.heap.objs.size)->IsPair h' TO x y->ti (k+1) h'->tj (m+1) h'->IsPair h' s.heap.objs.size x y->h'.objs.size=s.heap.objs.size+1->(∀ c o,c ∉ [z,TO,i,j]->s.heap.get? c=some o->h'.get? c=some o)->Q (.ref s.heap.objs.size) { s with heap:=h' }) :
  wpAny (model prog w) A (Builtin.«zip.__next__» ⟨[.ref z],[]⟩) (λ fin s'=>∃ v,fin=.done (.ret v)/\Q v s') E s:=by
 have iz:i ≠ z:=bc S.mem D.zf;have jz:j ≠ z:=bc T.mem D.zg;have a4:i ≠ TO:=bc S.mem D.tf;have a5:j ≠ TO:=bc T.mem D.tg;have ij:i ≠ j:=bc S.mem D.jf;refine wpAny_bind (m:=field (.ref z) 2) (wpAny_field hz rfl (x:=.bool false) rfl ?_);refine wpAny_bind (m:=field (.ref z) 3) (wpAny_field hz rfl (x:=.ref TI) rfl (wpAny_bind (wpAny_seqItems aX rfl ?_)));refine wpAny_bind (m:=Builtin.SmallTypes.ownedTupleIsFree (.ref z)) ?_;unfold Builtin.SmallTypes.ownedTupleIsFree;refine wpAny_bind (wpAny_field hz rfl (x:=.none) rfl (wpAny_pure ?_));simp only [if_true];refine wpAny_bind (wpAny_rule (wpAny_bind (wpAny_field hz rfl (x:=.ref TO) rfl (wpAny_bind (wpAny_setField_rec hz (by simp) λ q1 z1 s1=>?_)))));replace z1:IsZip q1 z TI TO .ellipsis:=z1;refine wpAny_bind ?_;simp only [List.zipIdx_cons,List.zipIdx_nil,forIn_cons,forIn_nil];refine wpAny_bind (wpAny_bind (wpAny_onRaise (wpAny_bind (m:=Builtin.SmallTypes.nextOf (.ref i)) (S.item _ k _ x _ _ (S.but hi s1.extBut D.zf) hx λ q2 i2 s2=>wpAny_pure ?_))));have o2:IsPair q2 TO a b:=s2.extBut _ _ a4.symm (s1.extBut _ _ D.zt.symm a3);refine wpAny_bind (wpAny_seqItems o2 rfl (wpAny_bind (wpAny_updateSeq_pair o2 λ q3 o3 s3=>wpAny_bind (wpAny_letGo (wpAny_pure ?_)))));replace o3:IsPair q3 TO x b:=o3;have j3:tj m q3:=T.but (T.but (T.but hj s1.extBut D.zg) s2.extBut D.ig) s3.extBut D.tg;refine wpAny_bind (wpAny_bind (wpAny_onRaise (wpAny_bind (m:=Builtin.SmallTypes.nextOf (.ref j)) (T.item _ m _ y _ _ j3 hy λ q4 j4 s4=>wpAny_pure ?_))));have o4:IsPair q4 TO x b:=s4.extBut _ _ a5.symm o3;refine wpAny_bind (wpAny_seqItems o4 rfl (wpAny_bind (wpAny_updateSeq_pair o4 λ q5 o5 s5=>wpAny_bind (wpAny_letGo (wpAny_pure (wpAny_pure ?_))))));replace o5:IsPair q5 TO x y:=o5;refine wpAny_bind (wpAny_seqItems o5 rfl (wpAny_bind (wpAny_newTuple ?_)));have sz:q5.objs.size=s.heap.objs.size:=by rw [s5.1,s4.1,s3.1,s2.1,s1.1]
 have z5:IsZip q5 z TI TO .ellipsis:=s5.extBut _ _ D.zt (s4.extBut _ _ jz.symm (s3.extBut _ _ D.zt (s2.extBut _ _ iz.symm z1)))
 have k5:∀ c o,c ∉ [z,TO,i,j]->s.heap.get? c=some o->q5.get? c=some o:=λ c o hc e=>by
  simp only [Rz,Rv,RV,T3] at hc;exact s5.extBut _ _ hc.2.1 (s4.extBut _ _ hc.2.2.2 (s3.extBut _ _ hc.2.1 (s2.extBut _ _ hc.2.2.1 (s1.extBut _ _ hc.1 e))))
 have i5:ti (k+1) q5:=S.but (S.but (S.but i2 s3.extBut D.tf) s4.extBut D.jf) s5.extBut D.tf;have j5:tj (m+1) q5:=T.but j4 s5.extBut D.tg;have aS:z < q5.objs.size:=Heap.lt_size z5;refine wpAny_bind (m:=Builtin.SmallTypes.ownedTupleHandOut (.ref z) (.ref q5.objs.size)) ?_;unfold Builtin.SmallTypes.ownedTupleHandOut;have z6:IsZip (q5.push { cls:=.type "tuple",data:=.seq #[x,y] }) z TI TO .ellipsis:=Heap.get?_push_of_some _ z5;refine wpAny_bind (wpAny_setField_rec z6 (by simp) λ q7 z7 s7=>?_);replace z7:IsZip q7 z TI TO (rawInt q5.objs.size):=z7;refine wpAny_setField_rec z7 (by simp) λ q8 z8 s8=>?_;replace z8:IsZip q8 z TI TO (rawInt q5.objs.size):=z8;have up:∀ c o,c ≠ z->q5.get? c=some o->q8.get? c=some o:=λ c o hc e=>s8.extBut _ _ hc (s7.extBut _ _ hc (Heap.get?_push_of_some _ e));have t8:IsPair q8 q5.objs.size x y:=s8.extBut _ _ (Nat.ne_of_gt aS) (s7.extBut _ _ (Nat.ne_of_gt aS) (Heap.get?_push_size _ rfl));have n8:q8.objs.size=q5.objs.size+1:=by rw [s8.1,s7.1,Heap.size_push]
 rw [sz] at z8 t8 n8;refine Ri ⟨_,rfl,?_⟩
 show Q (.ref q5.objs.size) _
 rw [sz];exact hQ q8 z8 (up _ _ D.zt.symm o5) (S.keep _ _ _ i5 λ c hc o e=>up c o (bc hc D.zf) e) (T.keep _ _ _ j5 λ c hc o e=>up c o (bc hc D.zg) e) t8 n8 λ c o hc e=>up c o (λ q=>hc (by simp [q])) (k5 c o hc e)
def Cj(hh:A.handled=none)(S:Src prog w i f ti vi)(T:Src prog w j g tj vj)(D:fP z TI TO i j f g){Q:Fin->Shared->Prop}
  (hz:IsZip s.heap z TI TO .none) (aX:IsPair s.heap TI (.ref i) (.ref j)) (a3:IsPair s.heap TO a b) (hi:ti k s.heap) (hj:tj m s.heap) (a4:vi k=none\/vj m=none)
  (hE:∀ h' e,(∀ c o,c ∉ [z,TO,i,j]->s.heap.get? c=some o->h'.get? c=some o)->(∃ o,h'.get? e=some o/\o.cls=.type "StopIteration")->E (.ref e) { s with heap:=h' }) :
  wpAny (model prog w) A (Builtin.«zip.__next__» ⟨[.ref z],[]⟩) Q E s:=by
 have iz:i ≠ z:=bc S.mem D.zf;have jz:j ≠ z:=bc T.mem D.zg;have a5:i ≠ TO:=bc S.mem D.tf;have a6:j ≠ TO:=bc T.mem D.tg;refine wpAny_bind (m:=field (.ref z) 2) (wpAny_field hz rfl (x:=.bool false) rfl ?_);refine wpAny_bind (m:=field (.ref z) 3) (wpAny_field hz rfl (x:=.ref TI) rfl (wpAny_bind (wpAny_seqItems aX rfl ?_)));refine wpAny_bind (m:=Builtin.SmallTypes.ownedTupleIsFree (.ref z)) ?_;unfold Builtin.SmallTypes.ownedTupleIsFree;refine wpAny_bind (wpAny_field hz rfl (x:=.none) rfl (wpAny_pure ?_));simp only [if_true];refine wpAny_bind (wpAny_rule (wpAny_bind (wpAny_field hz rfl (x:=.ref TO) rfl (wpAny_bind (wpAny_setField_rec hz (by simp) λ q1 z1 s1=>?_)))));replace z1:IsZip q1 z TI TO .ellipsis:=z1;refine wpAny_bind ?_;simp only [List.zipIdx_cons,List.zipIdx_nil,forIn_cons,forIn_nil];refine wpAny_bind (wpAny_bind (wpAny_onRaise (wpAny_bind (m:=Builtin.SmallTypes.nextOf (.ref i)) ?_)))
 cases hx:vi k with
 | none=>
  refine S.fin _ k _ _ _ hh (S.but hi s1.extBut D.zf) hx λ q2 e s2 ⟨oe,he,aS⟩=>?_;have z2:IsZip q2 z TI TO .ellipsis:=s2 _ _ iz.symm z1;have ez:e ≠ z:=λ q=>by subst q;rw [z2] at he;cases he;simp at aS
  refine R4 z2 (by simp) λ q3 _ s3=>hE q3 e (λ c o hc q=>?_) ⟨oe,s3.extBut _ _ ez he,aS⟩;simp only [Rz,Rv,RV,T3] at hc;exact s3.extBut _ _ hc.1 (s2 _ _ hc.2.2.1 (s1.extBut _ _ hc.1 q))
 | some x=>
  have hy:vj m=none:=a4.resolve_left (by rw [hx];exact Uq x);refine S.item _ k _ x _ _ (S.but hi s1.extBut D.zf) hx λ q2 i2 s2=>Ri ?_;have o2:IsPair q2 TO a b:=s2.extBut _ _ a5.symm (s1.extBut _ _ D.zt.symm a3);refine My (RM o2 rfl (My (Vq o2 λ q3 o3 s3=>My (Sz (Ri ?_)))));have j3:tj m q3:=T.but (T.but (T.but hj s1.extBut D.zg) s2.extBut D.ig) s3.extBut D.tg;refine My (My (S5 (My (m:=Builtin.SmallTypes.nextOf (.ref j)) (T.fin _ m _ _ _ hh j3 hy λ q4 e s4 ⟨oe,he,aS⟩=>?_))));have z4:IsZip q4 z TI TO .ellipsis:=s4 _ _ jz.symm (s3.extBut _ _ D.zt (s2.extBut _ _ iz.symm z1));have ez:e ≠ z:=λ q=>by subst q;rw [z4] at he;cases he;simp at aS
  refine R4 z4 (by simp) λ q5 _ s5=>hE q5 e (λ c o hc q=>?_) ⟨oe,s5.extBut _ _ ez he,aS⟩;simp only [Rz,Rv,RV,T3] at hc;exact s5.extBut _ _ hc.1 (s4 _ _ hc.2.2.2 (s3.extBut _ _ hc.2.1 (s2.extBut _ _ hc.2.2.1 (s1.extBut _ _ hc.1 q))))
def gR(S:Src prog w i f ti vi)(T:Src prog w j g tj vj)(D:fP z TI TO i j f g){Q:Option Value->Shared->Prop}
  (hz:IsZip s.heap z TI TO .none) (aS:IsPair s.heap TI (.ref i) (.ref j)) (aX:IsPair s.heap TO a b) (hi:ti k s.heap) (hj:tj m s.heap) (hx:vi k=some x) (hy:vj m=some y)
  (hQ:∀ h',IsZip h' z TI TO (rawInt s.heap.objs.size)->IsPair h' TO x y->ti (k+1) h'->tj (m+1) h'->IsPair h' s.heap.objs.size x y->h'.objs.size=s.heap.objs.size+1->(∀ c o,c ∉ [z,TO,i,j]->s.heap.get? c=some o->h'.get? c=some o)->Q (some (.ref s.heap.objs.size)) { s with heap:=h' }) :
  wpAny (model prog w) A (pyNext (.ref z)) Q E s:=by
 have ty:s.TypeIs (.ref z) "zip":=⟨_,hz,rfl⟩;unfold pyNext;exact wpAny_bind (wpAny_attempt (wpAny_callSpecial?_slot (name:=Str.ofString "__next__") ty F.slot_zip_next (wpAny_call_entry F.slot_zip_next ty F.entry_zip_next (zC S T D hz aS aX hi hj hx hy λ h' c1 c2 c3 c4 c5 c6 c7=>wpAny_pure (hQ h' c1 c2 c3 c4 c5 c6 c7)) (F.args_zip_next_1 _))))
def iO(hh:A.handled=none)(S:Src prog w i f ti vi)(T:Src prog w j g tj vj)(D:fP z TI TO i j f g){Q:Option Value->Shared->Prop}
  (hz:IsZip s.heap z TI TO .none) (aS:IsPair s.heap TI (.ref i) (.ref j)) (aX:IsPair s.heap TO a b) (hi:ti k s.heap) (hj:tj m s.heap) (a3:vi k=none\/vj m=none)
  (hQ:∀ h',(∀ c o,c ∉ [z,TO,i,j]->s.heap.get? c=some o->h'.get? c=some o)->Q none { s with heap:=h' }):wpAny (model prog w) A (pyNext (.ref z)) Q E s:=by
 have ty:s.TypeIs (.ref z) "zip":=⟨_,hz,rfl⟩;unfold pyNext;refine wpAny_bind (wpAny_attempt (wpAny_callSpecial?_slot (name:=Str.ofString "__next__") ty F.slot_zip_next (wpAny_call_entry F.slot_zip_next ty F.entry_zip_next (Cj (show A.in1.handled=none from hh) S T D hz aS aX hi hj a3 λ h' e kp he=>?_) (F.args_zip_next_1 _))));obtain⟨o,ho,hc⟩:=he;exact wpAny_bind (wpAny_isInstance (T := "StopIteration") (b:=true) ⟨o,ho,hc⟩ isSubtype_stop (wpAny_pure (hQ _ kp)))
end
def SeqAt(h:Heap)(k:Bool)(l:Addr)(xs:Array Value):Prop:=match k with
 | true=>h.IsTuple l xs
 | false=>h.IsList l xs
def bf(h:Heap)(k:Bool)(it l:Addr)(n:Nat):Prop:=match k with
 | true=>h.IsTupleIter it l n
 | false=>h.IsListIter it l n
def l4(k:Bool)(l:Addr):Obj:=match k with
 | true=>{ cls:=.type "tuple_iterator",data:=.fields #[.ref l,.int 0 0] }
 | false=>{ cls:=.type "list_iterator",data:=.fields #[.ref l,.int 0 0] }
def SeqAt.at{h h':Heap}{k:Bool}{l:Addr}{xs:Array Value}(q:SeqAt h k l xs)(e:∀ o,h.get? l=some o->h'.get? l=some o):SeqAt h' k l xs:=by
 cases k
 ·exact Heap.IsList.at q e
 ·exact Heap.IsTuple.at q e
def SeqAt.obj{h:Heap}{k:Bool}{l:Addr}{xs:Array Value}(q:SeqAt h k l xs):∃ o n,h.get? l=some o/\o.data=.seq xs n:=by
 cases k
 ·obtain⟨o,e,_,n,d⟩:=(show h.IsList l xs from q);exact⟨o,n,e,d⟩
 ·obtain⟨o,e,_,n,d⟩:=(show h.IsTuple l xs from q);exact⟨o,n,e,d⟩
def bf.at{h h':Heap}{k:Bool}{it l:Addr}{n:Nat}(q:bf h k it l n)(e:∀ o,h.get? it=some o->h'.get? it=some o):bf h' k it l n:=by
 cases k
 ·exact Heap.IsListIter.at q e
 ·exact Heap.IsTupleIter.at q e
def bf.obj{h:Heap}{k:Bool}{it l:Addr}{n:Nat}(q:bf h k it l n):∃ o fs,h.get? it=some o/\o.data=.fields fs:=by
 cases k
 ·obtain⟨o,e,_,d⟩:=(show h.IsListIter it l n from q);exact⟨o,_,e,d⟩
 ·obtain⟨o,e,_,d⟩:=(show h.IsTupleIter it l n from q);exact⟨o,_,e,d⟩
def dS{prog:Program}{w:World}(k:Bool)(it l:Addr)(aS:l ≠ it)(xs:Array Value):Src prog w it [it,l] (λ n h=>bf h k it l n/\SeqAt h k l xs) (λ n=>xs[n]?):=by
 cases k
 ·exact Cu it l aS xs
 ·exact GX it l aS xs
section
variable {prog:Program}{w:World}{A:Around}{E:Value->Shared->Prop}{s:Shared}
def kl{k:Bool}{l:Addr}{xs:Array Value}{Q:Value->Shared->Prop}(h:SeqAt s.heap k l xs)(hQ:Q (.ref s.heap.objs.size) { s with heap:=s.heap.push (l4 k l) }):wpAny (model prog w) A (pyIter (.ref l)) Q E s:=by
 cases k
 ·exact S0 h hQ
 ·exact wpAny_pyIter_tuple h hQ
abbrev zq1(ka:Bool)(a:Addr)(h:Heap):Heap:=h.push (l4 ka a)
abbrev zq2(ka kb:Bool)(a b:Addr)(h:Heap):Heap:=(zq1 ka a h).push (l4 kb b)
abbrev zq3(ka kb:Bool)(a b:Addr)(h:Heap):Heap:=(zq2 ka kb a b h).push { cls:=.type "tuple",data:=.seq #[.ref h.objs.size,.ref (zq1 ka a h).objs.size] }
abbrev zq4(ka kb:Bool)(a b:Addr)(h:Heap):Heap:=(zq3 ka kb a b h).push { cls:=.type "tuple",data:=.seq #[.none,.none] }
abbrev zq5(ka kb:Bool)(a b:Addr)(h:Heap):Heap:=(zq4 ka kb a b h).push { cls:=.type "zip",data:=.fields #[.none,.bool false,.bool false,.ref (zq2 ka kb a b h).objs.size,.ref (zq3 ka kb a b h).objs.size] }
def zy(ka kb:Bool)(a b:Addr)(xs ys:Array Value):Meets (Builtin.«zip.__new__» ⟨[.type "zip",.ref a,.ref b],[]⟩) (λ _ R s=>SeqAt s.heap ka a xs/\SeqAt s.heap kb b ys/\R (.ok (.ret (.ref (zq4 ka kb a b s.heap).objs.size))) { s with heap:=zq5 ka kb a b s.heap }):=
 .of_wp λ prog w A R s h=>by
  obtain⟨hp,g,d,tk,os⟩:=s;obtain⟨h1,h2,h⟩:=h;have aS:=sub_zip;have q1:SeqAt (Shared.heap ⟨hp,g,d,tk,os⟩) ka a xs:=h1;have q2:SeqAt (Shared.heap ⟨hp.push (l4 ka a),g,d,tk,os⟩) kb b ys:=h2.at λ o e=>Rc _ e
  wp_walk using kl q1,kl q2
  exact⟨_,rfl,h⟩
def yV{ka kb:Bool}{a b:Addr}{xs ys:Array Value}{Q:Value->Shared->Prop}(h1:SeqAt s.heap ka a xs)(h2:SeqAt s.heap kb b ys)
  (h:∀ h' n,n=s.heap.objs.size->IsZip h' (n+4) (n+2) (n+3) .none->IsPair h' (n+2) (.ref n) (.ref (n+1))->IsPair h' (n+3) .none .none->bf h' ka n a 0->bf h' kb (n+1) b 0->h'.objs.size=n+5->(∀ c o,s.heap.get? c=some o->h'.get? c=some o)->Q (.ref (n+4)) { s with heap:=h' }) :
  wpAny (model prog w) A (call (.type "zip") [.ref a,.ref b]) Q E s:=by
 refine callType_new F.called_zip (by decide) (F.typeCall_zip_2 _ _) (F.newCall_zip_2 _ _) (λ ob=>F.args_object_init_3 ob _ _) F.entry_zip_new (zy ka kb a b xs ys) ⟨h1,h2,?_⟩;have n1:(zq1 ka a s.heap).objs.size=s.heap.objs.size+1:=RT ..;have n2:(zq2 ka kb a b s.heap).objs.size=s.heap.objs.size+2:=by rw [RT,n1]
 have n3:(zq3 ka kb a b s.heap).objs.size=s.heap.objs.size+3:=by rw [RT,n2]
 have n4:(zq4 ka kb a b s.heap).objs.size=s.heap.objs.size+4:=by rw [RT,n3]
 have n5:(zq5 ka kb a b s.heap).objs.size=s.heap.objs.size+5:=by rw [RT,n4]
 have f1:bf (zq1 ka a s.heap) ka s.heap.objs.size a 0:=by
  cases ka<;>exact⟨_,Rn _ rfl,rfl,rfl⟩
 have f2:bf (zq2 ka kb a b s.heap) kb (zq1 ka a s.heap).objs.size b 0:=by
  cases kb<;>exact⟨_,Rn _ rfl,rfl,rfl⟩
 have u2:∀ c o,(zq2 ka kb a b s.heap).get? c=some o->(zq5 ka kb a b s.heap).get? c=some o:=λ c o e=>Rc _ (Rc _ (Rc _ e));have g5:(zq5 ka kb a b s.heap).get? (zq4 ka kb a b s.heap).objs.size=some _:=Rn _ rfl;have g4:(zq5 ka kb a b s.heap).get? (zq3 ka kb a b s.heap).objs.size=some _:=Rc _ (Rn _ rfl);have g3:(zq5 ka kb a b s.heap).get? (zq2 ka kb a b s.heap).objs.size=some _:=Rc _ (Rc _ (Rn _ rfl));have e1:bf (zq5 ka kb a b s.heap) ka s.heap.objs.size a 0:=f1.at λ o e=>u2 _ o (Rc _ e);have e2:bf (zq5 ka kb a b s.heap) kb (zq1 ka a s.heap).objs.size b 0:=f2.at λ o e=>u2 _ o e
 show _/\_
 rw [n2,n3,n4] at g5;rw [n1,n2] at g3;rw [n3] at g4;rw [n1] at e2;rw [n4];exact⟨⟨_,g5,rfl⟩,h _ _ rfl g5 g3 g4 e1 e2 n5 λ c o e=>u2 c o (Rc _ (Rc _ e))⟩
end
section
variable {X:Cx}{pins:List (Addr × Obj)}{σ:List (Option V)}{H:Hp}{s:Shared}{h':Heap}
def Inv.turnNew{t':Nat}{ch:List Addr}{n:Addr}{o:HO}(I:Inv X pins σ H s)(aS:∀ b∈ch,rS X pins H b)(k:∀ b ob,b ∉ ch->s.heap.get? b=some ob->h'.get? b=some ob)(hn:s.heap.objs.size<=n)(new:bW X.prog X.w (upd H n o) h' n o) :
  Inv X pins σ (upd H n o) { s with heap:=h',toks:=t' }:=by
 have fn:=I.hok.fresh hn;have up:∀ {b u},H b=some u->upd H n o b=some u:=λ {b u} e=>by rw [ah (cg e fn)];exact e
 have aX:∀ {b u},H b=some u->b ∉ ch:=λ {b u} e z=>by rw [(aS b z).1] at e;cases e
 refine I.step (g':=s.gens) (d':=s.drawn) (ch:=ch) (λ b hb=>⟨(aS b hb).2.2.2.1,(aS b hb).2.1,(aS b hb).2.2.2.2.1,(aS b hb).2.2.2.2.2⟩) (λ b ob _ _ hc e _=>k b ob hc e) (λ b ob _ _ hc e _=>⟨ob.slots,k b ob hc e⟩)
  (λ b ob _ e q=>?_) (λ b ob hc e=>⟨ob,k b ob hc e⟩) (λ _ _ e=>up e) (λ _ _ _ e=>up e) (λ b ps e=>⟨#[],by rw [up e];simp⟩) (λ m hm=>?_) (λ b u e=>?_) I.bare
 ·rw [ah (RC (RD (Rk e) hn))];exact q
 ·obtain⟨ol,es,ep,ho,r⟩:=hm;exact⟨ol,es,ep,k _ ol (λ z=>(aS _ z).2.1 rfl) ho,r⟩
 ·by_cases hb:b=n
  ·subst hb;rw [aq] at e;cases e;exact new
  ·rw [ah hb] at e;refine(I.hok b u e).stay (λ c v hc q=>k c v ?_ q) (λ c q=>up q) λ c xs q=>up q
   rcases hc with rfl|hc
   ·exact aX e
   ·exact aX hc
def Inv.turnL{t':Nat}{ch:List Addr}(I:Inv X pins σ H s)(aS:∀ b∈ch,rS X pins H b)(k:∀ b ob,b ∉ ch->s.heap.get? b=some ob->h'.get? b=some ob):Inv X pins σ H { s with heap:=h',toks:=t' }:=by
 have aX:∀ {b u},H b=some u->b ∉ ch:=λ {b u} e z=>by rw [(aS b z).1] at e;cases e
 refine I.step (g':=s.gens) (d':=s.drawn) (ch:=ch) (λ b hb=>⟨(aS b hb).2.2.2.1,(aS b hb).2.1,(aS b hb).2.2.2.2.1,(aS b hb).2.2.2.2.2⟩) (λ b ob _ _ hc e _=>k b ob hc e) (λ b ob _ _ hc e _=>⟨ob.slots,k b ob hc e⟩)
  (λ _ _ _ _ q=>q) (λ b ob hc e=>⟨ob,k b ob hc e⟩) (λ _ _ e=>e) (λ _ _ _ e=>e) (λ b ps e=>⟨#[],by rw [e];simp⟩) (λ m hm=>?_) (λ b u e=>?_) I.bare
 ·obtain⟨ol,es,ep,ho,r⟩:=hm;exact⟨ol,es,ep,k _ ol (λ z=>(aS _ z).2.1 rfl) ho,r⟩
 ·refine(I.hok b u e).stay (λ c v hc q=>k c v ?_ q) (λ _ q=>q) λ _ _ q=>q
  rcases hc with rfl|hc
  ·exact aX e
  ·exact aX hc
end
def SqK(k:Bool)(H:Hp)(a:Addr)(xs:List V):Prop:=match k with
 | true=>H a=some (.tup xs)
 | false=>H a=some (.lst xs)
def SqK.ne{k:Bool}{H:Hp}{a b:Addr}{xs:List V}(h:SqK k H a xs)(e:H b=none):a ≠ b:=λ z=>by
 subst z;cases k
 ·rw [show H a=some (.lst xs) from h] at e;cases e
 ·rw [show H a=some (.tup xs) from h] at e;cases e
def Inv.sq{X:Cx}{pins:List (Addr × Obj)}{σ:St}{H:Hp}{s:Shared}{k:Bool}{a:Addr}{xs:List V}(I:Inv X pins σ H s)(h:SqK k H a xs):∃ its:List Value,aU xs its/\SeqAt s.heap k a its.toArray:=by
 cases k
 ·obtain⟨its,r,p,_⟩:=I.list (SqL.of h);exact⟨its,r,p.isList⟩
 ·obtain⟨its,r,p,_⟩:=I.tuple (SqT.of h);exact⟨its,r,p⟩
def Itz(ka kb:Bool)(a b:Addr)(xs ys:List V):It:=
 ⟨λ i H=>SqK ka H a xs/\SqK kb H b ys/\i < xs.length/\i < ys.length,λ i H x H'=>∃ p u v,H p=none/\x=.ref p/\xs[i]? = some u/\ys[i]? = some v/\H'=upd H p (.tup [u,v]),λ i H=>SqK ka H a xs/\SqK kb H b ys/\(xs.length<=i\/ys.length<=i)⟩
def Tnz(ka kb:Bool)(a b z TI TO p q:Addr)(i:Nat)(h:Heap):Prop:=IsZip h z TI TO .none/\IsPair h TI (.ref p) (.ref q)/\(∃ u v,IsPair h TO u v)/\bf h ka p a i/\bf h kb q b i
def Cq{P:Program}{w:World}{K:W.Frag}{elts:List Expr}{x1}{tp:Pos}(ka kb:Bool)(a b z TI TO p q:Addr)(xs ys:List V)(nd:[z,TI,TO,p,q].Nodup):BS P w K (.Tuple elts x1 tp) (Itz ka kb a b xs ys) [z,TI,TO,p,q] z (Tnz ka kb a b z TI TO p q) where
 mem:=Rr
 obj:=λ i h st c hc=>by
  obtain⟨e1,e2,⟨u,v,e3⟩,e4,e5⟩:=st;simp only [Rz,Rv,RV] at hc
  rcases hc with rfl|rfl|rfl|rfl|rfl
  ·exact⟨_,e1,λ v z=>by cases z⟩
  ·exact⟨_,e2,λ v z=>by cases z⟩
  ·exact⟨_,e3,λ v z=>by cases z⟩
  ·obtain⟨o,fs,e,d⟩:=e4.obj;exact⟨o,e,λ v z=>by rw [d] at z;cases z⟩
  ·obtain⟨o,fs,e,d⟩:=e5.obj;exact⟨o,e,λ v z=>by rw [d] at z;cases z⟩
 keep:=λ i h h' st k=>by
  obtain⟨e1,e2,⟨u,v,e3⟩,e4,e5⟩:=st;exact⟨k z (by simp) _ e1,k TI (by simp) _ e2,⟨u,v,k TO (by simp) _ e3⟩,e4.at λ o e=>k p (by simp) o e,e5.at λ o e=>k q (by simp) o e⟩
 item:=by
  intro X hP hw hK hc i pins s σ H E I hf st hg;subst hP hw hK;obtain⟨e1,e2,⟨u0,v0,e3⟩,e4,e5⟩:=st;obtain⟨ha,hb,l1,l2⟩:=hg;obtain⟨as,ra,sa⟩:=I.sq ha;obtain⟨bs,rb,sb⟩:=I.sq hb;have hx:xs[i]? = some xs[i]:=Rb l1;have hy:ys[i]? = some ys[i]:=Rb l2;obtain⟨u,hu,ru⟩:=ra.get hx;obtain⟨v,hv,rv⟩:=rb.get hy;have free:∀ c∈[z,TI,TO,p,q],H c=none:=λ c h=>(hf c h).1;have aS:∀ c∈[z,TI,TO,p,q],a ≠ c:=λ c h=>ha.ne (free c h);have aX:∀ c∈[z,TI,TO,p,q],b ≠ c:=λ c h=>hb.ne (free c h);simp only [SY,Rz,Rv,RV,T3,Tq,and_true,TM] at nd;obtain⟨⟨z1,z2,z3,z4⟩,⟨t1,t2,t3⟩,⟨w1,w2⟩,y1⟩:=nd;have S:=dS (prog:=X.prog) (w:=X.w) ka p a (aS p (by simp)) as.toArray;have T:=dS (prog:=X.prog) (w:=X.w) kb q b (aX q (by simp)) bs.toArray;have D:fP z TI TO p q [p,a] [q,b]:=⟨⟨Ru z1,t1,t2,t3⟩,z2,by simp [z3,Ru (aS z (by simp))],by simp [z4,Ru (aX z (by simp))],by simp [w1,Ru (aS TO (by simp))],by simp [w2,Ru (aX TO (by simp))],by simp [y1,Ru (aX p (by simp))],by simp [Ru y1,Ru (aS q (by simp))]⟩;refine gR S T D e1 e2 e3 ⟨e4,sa⟩ ⟨e5,sb⟩ (x:=u) (y:=v) (by simpa using hu) (by simpa using hv) λ h1 c1 c2 c3 c4 c5 c6 c7=>?_;refine⟨_,rfl,wpAny_letOwnedTupleGo_zip (s:={ s with heap:=h1 }) c1 λ h2 d1 d2=>?_⟩;have lt:z < s.heap.objs.size:=Rk e1;have kp:∀ c o,c ∉ [z,TO,p,q]->s.heap.get? c=some o->h2.get? c=some o:=λ c o hc e=>d2.extBut _ _ (λ q=>hc (by simp [q])) (c7 c o hc e);have hn:h2.get? s.heap.objs.size=some { cls:=.type "tuple",data:=.seq #[u,v] }:=d2.extBut _ _ (Sd lt) c5;have I2:Inv X pins σ (upd H s.heap.objs.size (.tup [xs[i],ys[i]])) { s with heap:=h2 }:=I.turnNew (t':=s.toks) (ch:=[z,TO,p,q]) (λ c hc=>hf c (by simp only [Rz,Rv,RV] at hc ⊢;rcases hc with h|h|h|h<;>simp [h])) kp (Rl _) ⟨(show 2<=sizeLine by decide),[u,v],.cons ru (.cons rv .nil),⟨_,hn,rfl,_,rfl⟩⟩;have fr:H s.heap.objs.size=none:=I.hok.fresh (Rl _);refine⟨.ref s.heap.objs.size,_,I2,rfl,⟨_,_,_,fr,rfl,hx,hy,rfl⟩,⟨d1,d2.extBut _ _ (Ru z1) (c7 TI _ (by simp [Ru z1,t1,t2,t3]) e2),⟨u,v,d2.extBut _ _ (Ru z2) c2⟩,c3.1.at λ o e=>d2.extBut _ _ (Ru z3) e,c4.1.at λ o e=>d2.extBut _ _ (Ru z4) e⟩,λ c hc=>?_⟩
  obtain⟨o,ho,_⟩:∃ o,s.heap.get? c=some o/\True:=by
   simp only [Rz,Rv,RV] at hc
   rcases hc with rfl|rfl|rfl|rfl|rfl
   ·exact⟨_,e1,trivial⟩
   ·exact⟨_,e2,trivial⟩
   ·exact⟨_,e3,trivial⟩
   ·obtain⟨o,_,e,_⟩:=e4.obj;exact⟨o,e,trivial⟩
   ·obtain⟨o,_,e,_⟩:=e5.obj;exact⟨o,e,trivial⟩
  rw [ah (RC (Rk ho))];exact free c hc
 done:=by
  intro X hP hw hK hc i pins s σ H E I hf st hg;subst hP hw hK;obtain⟨e1,e2,⟨u0,v0,e3⟩,e4,e5⟩:=st;obtain⟨ha,hb,l⟩:=hg;obtain⟨as,ra,sa⟩:=I.sq ha;obtain⟨bs,rb,sb⟩:=I.sq hb;have free:∀ c∈[z,TI,TO,p,q],H c=none:=λ c h=>(hf c h).1;have aS:∀ c∈[z,TI,TO,p,q],a ≠ c:=λ c h=>ha.ne (free c h);have aX:∀ c∈[z,TI,TO,p,q],b ≠ c:=λ c h=>hb.ne (free c h);simp only [SY,Rz,Rv,RV,T3,Tq,and_true,TM] at nd;obtain⟨⟨z1,z2,z3,z4⟩,⟨t1,t2,t3⟩,⟨w1,w2⟩,y1⟩:=nd;have S:=dS (prog:=X.prog) (w:=X.w) ka p a (aS p (by simp)) as.toArray;have T:=dS (prog:=X.prog) (w:=X.w) kb q b (aX q (by simp)) bs.toArray;have D:fP z TI TO p q [p,a] [q,b]:=⟨⟨Ru z1,t1,t2,t3⟩,z2,by simp [z3,Ru (aS z (by simp))],by simp [z4,Ru (aX z (by simp))],by simp [w1,Ru (aS TO (by simp))],by simp [w2,Ru (aX TO (by simp))],by simp [y1,Ru (aX p (by simp))],by simp [Ru y1,Ru (aS q (by simp))]⟩;have la:=ra.length;have lb:=rb.length;refine iO (I.ok.hd hc) S T D e1 e2 e3 ⟨e4,sa⟩ ⟨e5,sb⟩ (l.imp (λ h=>by simp;omega) λ h=>by simp;omega) λ h1 kp=>⟨rfl,I.turnL (t':=s.toks) (ch:=[z,TO,p,q]) (λ c hc=>hf c (by simp only [Rz,Rv,RV] at hc ⊢;rcases hc with h|h|h|h<;>simp [h])) kp⟩
 self:=λ _ _ _ _ _ st h=>Uw st.1 h
def kZ2(ka:Bool)(a b:Addr)(xs:List V)(H:Hp)(R:It->Hp->Prop):HO->Prop:=λ o=>match o with
 | .lst ys=>R (Itz ka false a b xs ys) H
 | .tup ys=>R (Itz ka true a b xs ys) H
 | _=>False
def Io(ka:Bool)(a b:Addr)(xs ys:List V)(H:Hp)(R:It->Hp->Prop):kZ2 ka a b xs H R (.lst ys)=R (Itz ka false a b xs ys) H:=rfl
def Im(ka:Bool)(a b:Addr)(xs ys:List V)(H:Hp)(R:It->Hp->Prop):kZ2 ka a b xs H R (.tup ys)=R (Itz ka true a b xs ys) H:=rfl
def kZ1(a b:Addr)(H:Hp)(R:It->Hp->Prop):HO->Prop:=λ o=>match o with
 | .lst xs=>aH (H b) (kZ2 false a b xs H R)
 | .tup xs=>aH (H b) (kZ2 true a b xs H R)
 | _=>False
def Iq(a b:Addr)(xs:List V)(H:Hp)(R:It->Hp->Prop):kZ1 a b H R (.lst xs)=aH (H b) (kZ2 false a b xs H R):=rfl
def Ip(a b:Addr)(xs:List V)(H:Hp)(R:It->Hp->Prop):kZ1 a b H R (.tup xs)=aH (H b) (kZ2 true a b xs H R):=rfl
def kZ0(R:It->Hp->Prop):List V->Hp->Prop:=λ vs H=>match vs with
 | [.ref a,.ref b]=>aH (H a) (kZ1 a b H R)
 | _=>False
def O5(R:It->Hp->Prop)(a b:Addr)(H:Hp):kZ0 R [.ref a,.ref b] H=aH (H a) (kZ1 a b H R):=rfl
def Qv(ta:TA):TI:=λ σ H R=>ta σ H (kZ0 R)
def MO(ta:TA)(σ:St)(H:Hp)(R:It->Hp->Prop):Qv ta σ H R=ta σ H (kZ0 R):=rfl
def M0{R:It->Hp->Prop}{vs:List V}{H:Hp}(h:kZ0 R vs H):∃ a b ka kb xs ys,vs=[.ref a,.ref b]/\SqK ka H a xs/\SqK kb H b ys/\R (Itz ka kb a b xs ys) H:=by
 unfold kZ0 at h;split at h
 ·rename_i a b;obtain⟨o,e,h⟩:=ai h;unfold kZ1 at h;split at h
  ·rename_i xs;obtain⟨o',e',h⟩:=ai h;unfold kZ2 at h;split at h
   ·exact⟨a,b,false,false,xs,_,rfl,e,e',h⟩
   ·exact⟨a,b,false,true,xs,_,rfl,e,e',h⟩
   ·exact h.elim
  ·rename_i xs;obtain⟨o',e',h⟩:=ai h;unfold kZ2 at h;split at h
   ·exact⟨a,b,true,false,xs,_,rfl,e,e',h⟩
   ·exact⟨a,b,true,true,xs,_,rfl,e,e',h⟩
   ·exact h.elim
  ·exact h.elim
 ·exact h.elim
section
variable {X:Cx}
def K7{a b:Expr}{elts:List Expr}{x1}{tp:Pos}{ta:TA}{p pos:Pos}(hg:Gl X "zip")(hm:X.mg "zip"=none)(ha:PA X [a,b] ta)(hs:starEach [a,b] X.env=[(false,eval a X.env),(false,eval b X.env)]:=by rfl)(aS:starEach [b] X.env=[(false,eval b X.env)]:=by rfl) :
  PI X (.Tuple elts x1 tp) (.Call (.Name "zip" p) [a,b] [] pos) (Qv ta):=by
 intro pins s σ H R I h;refine Call_ (eN I hg hm (show bootBuiltins "zip"=some (.type "zip") by decide +kernel) (RY (thn (ha pos pins s σ H _ I h) λ us s1 ⟨vs,H1,I1,r1,q1⟩=>?_) (by rw [hs,aS]) (by rw [aS];rfl)));obtain⟨a,b,ka,kb,xs,ys,rfl,sa,sb,q⟩:=M0 q1
 cases r1 with
 | cons r rr=>
  cases rr with
  | cons r' rr=>
   cases rr;cases r;cases r';obtain⟨as,ra,aX⟩:=I1.sq sa;obtain⟨bs,rb,a3⟩:=I1.sq sb;refine yV aX a3 λ h' n hn e1 e2 e3 e4 e5 e6 e7=>?_;have I2:Inv X pins σ H1 { s1 with heap:=h' }:=I1.kept (t':=s1.toks) e7;refine Uw (s:={ s1 with heap:=h' }) e1 ⟨n+4,[n+4,n+2,n+3,n,n+1],_,_,H1,rfl,I2,Cq ka kb a b (n+4) (n+2) (n+3) n (n+1) xs ys (by simp),⟨e1,e2,⟨_,_,e3⟩,e4,e5⟩,λ c hc=>?_,q⟩
   have hle:s1.heap.objs.size<=c:=by
    rw [←hn];simp only [Rz,Rv,RV] at hc
    rcases hc with rfl|rfl|rfl|rfl|rfl
    ·exact Sg ..
    ·exact Sg ..
    ·exact Sg ..
    ·exact Rl _
    ·exact Sg ..
   exact I1.fpOk hle (I1.hok.fresh hle)
end
def Nx(te:TE)(σ2:St)(N1:VK)(N0:Hp->Prop):Bool->Hp->Prop:=λ b H=>if b=true then te σ2 H N1 else N0 H
def aJ(te:TE)(σ2:St)(N1:VK)(N0:Hp->Prop)(b:Bool)(H:Hp):Nx te σ2 N1 N0 b H=(if b=true then te σ2 H N1 else N0 H):=rfl
def kCm(k:Nat)(tt:TT)(te:TE)(σ:St)(N1:VK)(N0:Hp->Prop):St->Hp->Prop:=λ σ2 H=>(∃ vs:St,vs.length=k/\σ2=vs++σ)/\tt σ2 H (Nx te σ2 N1 N0)
def aL(tt:TT)(te:TE)(σ:St)(N1:VK)(N0:Hp->Prop)(a:Option V)(H:Hp):kCm 1 tt te σ N1 N0 (a::σ) H=tt (a::σ) H (Nx te (a::σ) N1 N0):=propext ⟨λ h=>h.2,λ h=>⟨⟨[a],rfl,rfl⟩,h⟩⟩
def dB(tt:TT)(te:TE)(σ:St)(N1:VK)(N0:Hp->Prop)(a b:Option V)(H:Hp):kCm 2 tt te σ N1 N0 (a::b::σ) H=tt (a::b::σ) H (Nx te (a::b::σ) N1 N0):=propext ⟨λ h=>h.2,λ h=>⟨⟨[a,b],rfl,rfl⟩,h⟩⟩
def HV(σ:St):List.replicate 1 (none:Option V)++σ=none::σ:=rfl
def HU(σ:St):List.replicate 2 (none:Option V)++σ=none::none::σ:=rfl
def Al{α:Type}(R:α->V->Prop)(zs:List α)(ys:List V):Prop:=ys.length=zs.length/\∀ (i:Nat) z y,zs[i]? = some z->ys[i]? = some y->R z y
def Al.nil{α:Type}{R:α->V->Prop}:Al R [] []:=⟨rfl,λ i z y h=>by simp at h⟩
def Al.snoc{α:Type}{R:α->V->Prop}{zs:List α}{ys:List V}{z:α}{y:V}(h:Al R zs ys)(r:R z y):Al R (zs++[z]) (ys++[y]):=by
 refine⟨by simp [h.1],λ i z' y' h1 h2=>?_⟩
 by_cases hi:i < zs.length
 ·rw [R8 hi] at h1;rw [R8 (by rw [h.1];exact hi)] at h2;exact h.2 i z' y' h1 h2
 ·rw [R1 (by omega)] at h1;rw [R1 (by rw [h.1];omega),h.1] at h2
  by_cases h0:i - zs.length=0
  ·rw [h0] at h1 h2;simp at h1 h2;subst h1;subst h2;exact r
  ·rw [SK (by simp;omega)] at h1;cases h1
def Al.imp{α:Type}{R S:α->V->Prop}{zs:List α}{ys:List V}(h:Al R zs ys)(f:∀ z y,R z y->S z y):Al S zs ys:=⟨h.1,λ i z y a b=>f z y (h.2 i z y a b)⟩
def Al.map{α:Type}{f:α->V}{zs:List α}{ys:List V}(h:Al (λ z y=>y=f z) zs ys):ys=zs.map f:=by
 apply List.ext_getElem?;intro i;rw [Rq]
 by_cases hi:i < zs.length
 ·have e1:zs[i]? = some zs[i]:=Rb hi;have e2:ys[i]? = some (ys[i]'(by rw [h.1];exact hi)):=Rb _;rw [e1,e2,h.2 i _ _ e1 e2];rfl
 ·have:=h.1;rw [SK (show ys.length<=i by omega),SK (show zs.length<=i by omega)];rfl
section
variable {k:Nat}{g:TG}{tt:TT}{te:TE}{σ:St}{Q:VK}{H:Hp}{K:PySem.W.Frag}
def iH{α:Type}{J:It}(zs:List α)(c:α->Bool)(P:α->V->Hp->Prop)(R:Addr->α->V->Hp->Prop)
  (a6:∀ i z H',zs[i]? = some z->Ext H H'->J.go i H'/\∀ x aS,J.yld i H' x aS->Ext H' aS/\P z x aS)
  (a7:∀ H',Ext H H'->J.stop zs.length H')
  (a4:∀ D z y H1 H2,R D z y H1->Ext H1 H2->R D z y H2) (a5:∀ D z y H1 o,R D z y H1->R D z y (upd H1 D o))
  (hl:zs.length<=sizeLine)
  (hs:∀ D z x H' N1 N0,z∈zs->H D=none->Ext H H'->(∃ ys,H' D=some (.lst ys))->P z x H'->(c z=true->∀ y aS,Ext H' aS->R D z y aS->N1 y aS)->(c z=false->∀ aS,Ext H' aS->N0 aS)->g x (List.replicate k none++σ) H' (kCm k tt te σ N1 N0))
  (hd:∀ D ys H',H D=none->Ext H H'->H' D=some (.lst ys)->Al (λ z y=>R D z y H') (zs.filter c) ys->Q (.ref D) H'):B4 k g tt te σ Q J H:=by
 intro D hD;refine⟨λ i m ys H'=>m=zs.length - i/\i<=zs.length/\Ext H H'/\H' D=some (.lst ys)/\Al (λ z y=>R D z y H') ((zs.take i).filter c) ys,⟨zs.length,by simp,So _,Ext.new hD,aq,by simpa using Al.nil⟩,?_⟩;rintro i m ys H' ⟨rfl,hi,e,aX,al⟩
 by_cases hlt:i < zs.length
 ·have hz:zs[i]? = some zs[i]:=Rb hlt;obtain⟨go,y⟩:=a6 i zs[i] H' hz e;have tk:zs.take (i+1)=zs.take i++[zs[i]]:=by rw [U8,hz];rfl
  have ln:ys.length < sizeLine:=by
   have h1:=al.1;have h2:=Uh c (zs.take i);simp only [R0] at h2;omega
  refine .inr ⟨go,λ a3 H2=>Ext H H2/\H2 D=some (.lst a3)/\Al (λ z y=>R D z y H2) ((zs.take (i+1)).filter c) a3,λ a3 H2 p=>⟨zs.length - (i+1),by omega,rfl,hlt,p⟩,λ x H2 z=>?_⟩;obtain⟨e2,p2⟩:=y x H2 z;refine hs D zs[i] x H2 (kC3 D ys _) _ (SQ hlt) hD (e.trans e2) ⟨ys,e2.at aX⟩ p2 (λ hc y H3 e3 r3=>?_) λ hc H3 e3=>?_
  ·refine⟨e3.at (e2.at aX),ln,(e.trans (e2.trans e3)).put hD,aq,?_⟩;rw [tk,Uy,show [zs[i]].filter c=[zs[i]] by simp [hc]];exact Al.snoc (al.imp λ z y r=>a5 _ _ _ _ _ (a4 _ _ _ _ _ r (e2.trans e3))) (a5 _ _ _ _ _ r3)
  ·refine⟨e.trans (e2.trans e3),(e2.trans e3).at aX,?_⟩;rw [tk,Uy,show [zs[i]].filter c=[] by simp [hc],T2];exact al.imp λ z y r=>a4 _ _ _ _ _ r (e2.trans e3)
 ·have e':i=zs.length:=by omega
  subst e';rw [R6] at al;exact .inl ⟨a7 H' e,hd D ys H' hD e aX al⟩
def aV{α:Type}{J:It}(zs:List α)(c:α->Bool)(f:α->V)(P:α->V->Hp->Prop)
  (aX:∀ i z H',zs[i]? = some z->Ext H H'->J.go i H'/\∀ x aS,J.yld i H' x aS->Ext H' aS/\P z x aS)
  (a3:∀ H',Ext H H'->J.stop zs.length H') (hl:zs.length<=sizeLine)
  (hs:∀ D z x H' N1 N0,z∈zs->H D=none->Ext H H'->P z x H'->(c z=true->∀ aS,Ext H' aS->N1 (f z) aS)->(c z=false->∀ aS,Ext H' aS->N0 aS)->g x (List.replicate k none++σ) H' (kCm k tt te σ N1 N0))
  (hd:∀ D H',H D=none->Ext H H'->H' D=some (.lst ((zs.filter c).map f))->Q (.ref D) H'):B4 k g tt te σ Q J H:=
 iH zs c P (λ _ z y _=>y=f z) aX a3 (λ _ _ _ _ _ r _=>r) (λ _ _ _ _ _ r=>r) hl (λ D z x H' N1 N0 hz hD e _ p k1 k0=>hs D z x H' N1 N0 hz hD e p (λ hc aS e'=>k1 hc _ aS e' rfl) k0) λ D ys H' hD e a4 al=>hd D H' hD e (by rw [←al.map];exact a4)
def di{lo:Int}{n:Nat}:(∀ i z H',(List.range n)[i]? = some z->Ext H H'->(Itr lo n).go i H'/\∀ x aS,(Itr lo n).yld i H' x aS->Ext H' aS/\x=.int (lo+(z:Nat)))/\∀ H',Ext H H'->(Itr lo n).stop (List.range n).length H':=by
 refine⟨λ i z H' hz _=>?_,λ H' _=>by simp [Itr]⟩;obtain⟨h1,h2⟩:=Rf.mp hz;have e:i=z:=by simpa using h2
 subst e;exact⟨(show i < n by simpa using h1),λ x aS y=>⟨by rw [y.1];exact Ext.refl _,y.2⟩⟩
def xw{a:Addr}{xs:List V}(h:H a=some (.lst xs)):(∀ i z H',xs[i]? = some z->Ext H H'->(Itl K a).go i H'/\∀ x aS,(Itl K a).yld i H' x aS->Ext H' aS/\(x=z/\aS a=some (.lst xs)))/\∀ H',Ext H H'->(Itl K a).stop xs.length H':=
 ⟨λ i z H' hz e=>⟨⟨xs,z,SqL.of (e.at h),hz⟩,λ x aS y=>⟨by rw [y.1];exact Ext.refl _,RE ((y.2 xs (SqL.of (e.at h))).symm.trans hz),by rw [y.1];exact e.at h⟩⟩,λ H' e=>⟨xs,SqL.of (e.at h),Rl _⟩⟩
def SqK.ext{kk:Bool}{H H':Hp}{a:Addr}{xs:List V}(h:SqK kk H a xs)(e:Ext H H'):SqK kk H' a xs:=by
 cases kk
 ·exact e.at (show H a=some (.lst xs) from h)
 ·exact e.at (show H a=some (.tup xs) from h)
def EX(z:V × V)(x:V)(H:Hp):Prop:=∃ p,x=.ref p/\H p=some (.tup [z.1,z.2])
def jx{ka kb:Bool}{a b:Addr}{xs ys:List V}(ha:SqK ka H a xs)(hb:SqK kb H b ys):(∀ i z H',(xs.zip ys)[i]? = some z->Ext H H'->(Itz ka kb a b xs ys).go i H'/\∀ x aS,(Itz ka kb a b xs ys).yld i H' x aS->Ext H' aS/\EX z x aS)/\∀ H',Ext H H'->(Itz ka kb a b xs ys).stop (xs.zip ys).length H':=by
 refine⟨λ i z H' hz e=>?_,λ H' e=>⟨ha.ext e,hb.ext e,?_⟩⟩
 ·obtain⟨h1,h2⟩:=Rf.mp hz;rw [Tb] at h1;refine⟨⟨ha.ext e,hb.ext e,by omega,by omega⟩,λ x aS y=>?_⟩;obtain⟨p,u,v,hp,rfl,hu,hv,rfl⟩:=y;refine⟨Ext.new hp,p,rfl,?_⟩;rw [aq];rw [Rb (by omega)] at hu hv;cases hu;cases hv;rw [←h2,List.getElem_zip]
 ·rw [Tb];omega
def ko{tb:TS}{nx:St->Hp->Prop}{rt:VK}{bk ct:St->Hp->Prop}{ka kb:Bool}{a b:Addr}{xs ys:List V}(Pv:Nat->St->Hp->Prop)(h0:Pv 0 σ H)(hl:∀ i σ H,Pv i σ H->SqK ka H a xs/\SqK kb H b ys)
  (hs:∀ i u v p σ H H',xs[i]? = some u->ys[i]? = some v->Pv i σ H->H p=none->Ext H H'->H' p=some (.tup [u,v])->g (.ref p) σ H' (rW tb ⟨Pv (i+1),rt,nx,Pv (i+1)⟩)) (hd:∀ σ H,Pv (min xs.length ys.length) σ H->nx σ H):FA g tb ⟨nx,rt,bk,ct⟩ σ (Itz ka kb a b xs ys) H:=by
 refine⟨λ i m σ H=>m=min xs.length ys.length - i/\i<=min xs.length ys.length/\Pv i σ H,⟨min xs.length ys.length,by simp,So _,h0⟩,?_⟩;rintro i m σ H ⟨rfl,hi,p⟩;obtain⟨qa,qb⟩:=hl i σ H p
 by_cases hlt:i < min xs.length ys.length
 ·refine .inr ⟨⟨qa,qb,by omega,by omega⟩,Pv (i+1),λ σ' H' p'=>⟨min xs.length ys.length - (i+1),by omega,rfl,hlt,p'⟩,λ x H' y=>?_⟩;obtain⟨r,u,v,hr,rfl,hu,hv,rfl⟩:=y;exact hs i u v r σ H _ hu hv p hr (Ext.new hr) aq
 ·have e:i=min xs.length ys.length:=by omega
  subst e;exact .inl ⟨⟨qa,qb,by omega⟩,hd σ H p⟩
end
def KJ(sc:Scope)(N:List Str)(scope:Scope)(N':List Str)(k:Nat):Bool:=
 scope.names.all (λ y=>!(y.2 == .cell)) && (scope.kind == .function) && scope.names.all (λ y=>!(y.2 == .local) || scope.names.lookup y.1 == some .local) && scope.names.all (λ y=>!(y.2 == .free) || sc.names.lookup y.1 == some .cell) && decide (N'.length=k+N.length) &&
  ((N'.drop k).zip N).all (λ p=>(!(scope.names.lookup p.1 == some .free) || decide (p.1=p.2)) && !(scope.names.lookup p.1 == some .local))
def aC{X:Cx}{scope:Scope}{N':List Str}{k:Nat}(sc:Scope)(N:List Str)(h1:X.env.scope=sc)(h2:X.N=N)(h:KJ sc N scope N' k=true):kg X scope N' k:=by
 unfold KJ at h;simp only [Bool.and_eq_true,decide_eq_true_eq] at h;obtain⟨⟨⟨⟨⟨a1,a2⟩,a3⟩,a4⟩,a5⟩,a6⟩:=h;rw [all_eq_true] at a1 a3 a4 a6
 have pr:∀ i x,N'[k+i]? = some x->∃ y,N[i]? = some y/\(x,y)∈(N'.drop k).zip N:=λ i x hx=>by
  have h0:=(Rf.mp hx).1;have hi:i < N.length:=by omega
  have e1:(N'.drop k)[i]? = some x:=by rw [List.getElem?_drop];exact hx
  have e2:N[i]? = some N[i]:=Rb hi;refine⟨_,e2,Rx (i:=i) ?_⟩;rw [Sa];exact⟨e1,e2⟩
 refine⟨λ y hy e=>?_,by simpa using a2,λ y hy e=>?_,λ y hy e=>?_,by rw [h2];exact a5,λ i x hx hf=>?_,λ i x hx hf=>?_⟩
 ·have:=a1 y hy;rw [e] at this;simp at this
 ·have:=a3 y hy;rw [e] at this;simpa using this
 ·have:=a4 y hy;rw [e] at this;rw [h1];simpa using this
 ·obtain⟨y,hy,hm⟩:=pr i x hx;have:=a6 _ hm;simp only [hf] at this;rw [h2,hy];simp at this;rw [this]
 ·obtain⟨y,hy,hm⟩:=pr i x hx;have:=a6 _ hm;simp [hf] at this
def Gn(H:Hp)(Q:VK):V->Prop:=λ v=>Q v H
def IF(H:Hp)(Q:VK)(v:V):Gn H Q v=Q v H:=rfl
def B3(K:W.Frag)(f:Str)(H:Hp)(Q:VK):HO->Prop:=λ o=>match o with
 | .ins C dx fs=>Cls K C/\dm K C f/\aH (fs.lookup f) (Gn H Q)
 | _=>False
def IG(K:W.Frag)(f:Str)(H:Hp)(Q:VK)(C dx:Addr)(fs:List (Str × V)):B3 K f H Q (.ins C dx fs)=(Cls K C/\dm K C f/\aH (fs.lookup f) (Gn H Q)):=rfl
def J1(K:W.Frag)(f:Str)(Q:VK):VK:=λ x H=>match x with
 | .ref a=>aH (H a) (B3 K f H Q)
 | _=>False
def Mv(K:W.Frag)(f:Str)(Q:VK)(a:Addr)(H:Hp):J1 K f Q (.ref a) H=aH (H a) (B3 K f H Q):=rfl
def NT(K:W.Frag)(ta:TE)(f:Str):TE:=λ σ H Q=>ta σ H (J1 K f Q)
def L4(K:W.Frag)(ta:TE)(f:Str)(σ:St)(H:Hp)(Q:VK):NT K ta f σ H Q=ta σ H (J1 K f Q):=rfl
def Ji{K:W.Frag}{f:Str}{Q:VK}{x:V}{H:Hp}(h:J1 K f Q x H):∃ a C dx fs v,x=.ref a/\H a=some (.ins C dx fs)/\Cls K C/\dm K C f/\fs.lookup f=some v/\Q v H:=by
 unfold J1 at h;split at h
 ·obtain⟨o,e,h⟩:=ai h;unfold B3 at h;split at h
  ·obtain⟨c,n,h⟩:=h;obtain⟨v,l,q⟩:=ai h;exact⟨_,_,_,_,v,rfl,e,c,n,l,q⟩
  ·exact h.elim
 ·exact h.elim
section
variable {X:Cx}{e o value:Expr}{ta tv:TE}{f:Str}{pos pos':Pos}
def yA(he:PE X e ta)(hb:attributeBase e f X.env (eval e X.env)=eval e X.env):PE X (.Attribute e f pos) (NT X.K ta f):=by
 intro pins s σ H Q I h;refine JH hb (thn (he pins s σ H _ I h) λ u s1 ⟨x,H1,I1,rx,q1⟩=>?_);obtain⟨a,C,dx,fs,v,ex,ea,c,n,l,q⟩:=Ji q1;subst ex;obtain rfl:u=Value.ref a:=rx;exact wM I1 ea c n l λ u' s2 I2 ru=>⟨v,H1,I2,ru,q⟩
def BZ(K:W.Frag)(f:Str)(y:V)(a:Addr)(σ:St)(nx:St->Hp->Prop)(H:Hp):HO->Prop:=λ o=>match o with
 | .ins C dx fs=>Cls K C/\dm K C f/\fs.length < 1000/\nx σ (upd H a (.ins C dx (fV f y fs)))
 | _=>False
def Iu(K:W.Frag)(f:Str)(y:V)(a:Addr)(σ:St)(nx:St->Hp->Prop)(H:Hp)(C dx:Addr)(fs:List (Str × V)):BZ K f y a σ nx H (.ins C dx fs)=(Cls K C/\dm K C f/\fs.length < 1000/\nx σ (upd H a (.ins C dx (fV f y fs)))):=rfl
def B0(K:W.Frag)(f:Str)(y:V)(σ:St)(nx:St->Hp->Prop):VK:=λ x H=>match x with
 | .ref a=>aH (H a) (BZ K f y a σ nx H)
 | _=>False
def Iw(K:W.Frag)(f:Str)(y:V)(σ:St)(nx:St->Hp->Prop)(a:Addr)(H:Hp):B0 K f y σ nx (.ref a) H=aH (H a) (BZ K f y a σ nx H):=rfl
def Gi(K:W.Frag)(f:Str)(ta:TE)(σ:St)(nx:St->Hp->Prop):VK:=λ y H=>ta σ H (B0 K f y σ nx)
def Iy(K:W.Frag)(f:Str)(ta:TE)(σ:St)(nx:St->Hp->Prop)(y:V)(H:Hp):Gi K f ta σ nx y H=ta σ H (B0 K f y σ nx):=rfl
def Kn(K:W.Frag)(ta tv:TE)(f:Str):TS:=λ D σ H=>tv σ H (Gi K f ta σ D.nx)
def Ic(K:W.Frag)(ta tv:TE)(f:Str)(nx:St->Hp->Prop)(rt:VK)(bk ct:St->Hp->Prop)(σ:St)(H:Hp):Kn K ta tv f ⟨nx,rt,bk,ct⟩ σ H=tv σ H (Gi K f ta σ nx):=rfl
def jQ(ha:PE X o ta)(hv:PE X value tv)(hs:swapsWith value (some (.Attribute o f pos')) pos.line X.env=pure false):PS X (.Assign [.Attribute o f pos'] value pos) (Kn X.K ta tv f):=by
 intro pins s σ H D I h;refine plainObj_wpAny_Assign_Attribute (thn (hv pins s σ H _ I h) λ u s1 ⟨y,H1,I1,ry,q⟩=>thn (ha pins s1 σ H1 _ I1 q) λ ov s2 ⟨x,H2,I2,rx,q1⟩=>?_) hs;unfold B0 at q1;split at q1
 ·rename_i a;obtain rfl:ov=Value.ref a:=rx;obtain⟨ob,ea,q1⟩:=ai q1;unfold BZ at q1;split at q1
  ·obtain⟨c,n,l,q2⟩:=q1;exact vR I2 ea c n l ry λ s3 I3=>⟨σ,_,I3,q2⟩
  ·exact q1.elim
 ·exact q1.elim
end
def pS(sp:Sp)(dvs:List V)(E:XK)(a:Addr)(Q:VK):List V->Hp->Prop:=λ vs H=>sp (.ref a::(vs++dvs)) H Q E
def wu(sp:Sp)(dvs:List V)(E:XK)(a:Addr)(Q:VK)(H:Hp):pS sp dvs E a Q [] H=sp (.ref a::dvs) H Q E:=rfl
def wt(sp:Sp)(dvs:List V)(E:XK)(a:Addr)(Q:VK)(x:V)(H:Hp):pS sp dvs E a Q [x] H=sp (.ref a::x::dvs) H Q E:=rfl
def wq(sp:Sp)(dvs:List V)(E:XK)(a:Addr)(Q:VK)(x y:V)(H:Hp):pS sp dvs E a Q [x,y] H=sp (.ref a::x::y::dvs) H Q E:=rfl
def ux(C:Addr)(m:Str)(sp:Sp)(dvs:List V)(E:XK)(t:TA)(σ:St)(Q:VK)(a:Addr)(H:Hp):HO->Prop:=λ o=>match o with
 | .ins C' dx fs=>C'=C/\fs.lookup m=none/\t σ H (pS sp dvs E a Q)
 | _=>False
def Dw(C:Addr)(m:Str)(sp:Sp)(dvs:List V)(E:XK)(t:TA)(σ:St)(Q:VK)(a:Addr)(H:Hp)(dx:Addr)(fs:List (Str × V)):ux C m sp dvs E t σ Q a H (.ins C dx fs)=(fs.lookup m=none/\t σ H (pS sp dvs E a Q)):=propext ⟨λ h=>h.2,λ h=>⟨rfl,h⟩⟩
def xq(C:Addr)(m:Str)(sp:Sp)(dvs:List V)(E:XK)(t:TA)(σ:St)(Q:VK):VK:=λ x H=>match x with
 | .ref a=>aH (H a) (ux C m sp dvs E t σ Q a H)
 | _=>False
def ID(C:Addr)(m:Str)(sp:Sp)(dvs:List V)(E:XK)(t:TA)(σ:St)(Q:VK)(a:Addr)(H:Hp):xq C m sp dvs E t σ Q (.ref a) H=aH (H a) (ux C m sp dvs E t σ Q a H):=rfl
def Gb(C:Addr)(m:Str)(sp:Sp)(dvs:List V)(E:XK)(ta:TE)(t:TA):TE:=λ σ H Q=>ta σ H (xq C m sp dvs E t σ Q)
def Ig(C:Addr)(m:Str)(sp:Sp)(dvs:List V)(E:XK)(ta:TE)(t:TA)(σ:St)(H:Hp)(Q:VK):Gb C m sp dvs E ta t σ H Q=ta σ H (xq C m sp dvs E t σ Q):=rfl
def uS{C:Addr}{m:Str}{sp:Sp}{dvs:List V}{E:XK}{t:TA}{σ:St}{Q:VK}{x:V}{H:Hp}(h:xq C m sp dvs E t σ Q x H):∃ a dx fs,x=.ref a/\H a=some (.ins C dx fs)/\fs.lookup m=none/\t σ H λ vs H2=>sp (x::(vs++dvs)) H2 Q E:=by
 unfold xq at h;split at h
 ·obtain⟨o,e,h⟩:=ai h;unfold ux at h;split at h
  ·obtain⟨rfl,l,h⟩:=h;exact⟨_,_,_,rfl,e,l,h⟩
  ·exact h.elim
 ·exact h.elim
section
variable {X:Cx}{CX:CXT}{k:Nat}{f C:Addr}{fd:FuncData}{ps:List Str}{sp:Sp}{dvs:List V}{ds:List Value}{E:XK}{x m:Str}{p pos apos:Pos}{e o:Expr}{es:List Expr}{ta:TE}{t:TA}
def CT{pl:Sem Bool}(he:PE X o ta)(c:Cls X.K C)(hm:rQ X.K C m f)(F:bh X.prog X.w X.K X.mg X.base CX k f fd ps sp)(hr:jE k X.A)(hb:aw X.K fd ps ds)(hd:aU dvs ds)(hx:kf CX X E)(ha:PA X (e::es) t)
  (aS:starEach (e::es) X.env=(false,eval e X.env)::starEach es X.env:=by rfl) (aX:(backTo pos (starEach es X.env)).any (·.1)=false:=by rfl)
  (ht:eval (.Call (.Attribute o m apos) (e::es) [] pos) X.env=(do
   let ov ←eval o X.env
   standAt apos.atName
   let (f,first) ←holding [ov] (getMethod ov m pl)
   callWith pos f first (backTo pos (starEach (e::es) X.env)) (backToKw pos (keywordEach [] X.env))):=by rfl) :
  PE X (.Call (.Attribute o m apos) (e::es) [] pos) (Gb C m sp dvs E ta t):=by
 intro pins s σ H Q I h;refine W.methodCall_KW (pl:=pl) (thn (he pins s σ H _ I h) λ u s1 ⟨x,H1,I1,rx,q0⟩=>?_) ht;obtain⟨a,dx,fs,ex,ea,l,q⟩:=uS q0;subst ex;obtain rfl:u=Value.ref a:=rx;refine mT I1 ea c hm l ?_;refine W.callWith_K (first:=[.ref a]) (h₀:=X.base) I.ok.mod.kin hm.kp (thn (ha pos pins s1 σ H1 _ I1 q) λ us s2 ⟨vs,H2,I2,r,q2⟩=>⟨I2.kIn,?_⟩) aS aX;exact xX (us:=.ref a::us) (vs:=.ref a::vs) F hr hb hd hx I2 (.cons rfl r) q2
def zT{pl:Sem Bool}(he:PE X o ta)(c:Cls X.K C)(hm:rQ X.K C m f)(F:bh X.prog X.w X.K X.mg X.base CX k f fd ps sp)(hr:jE k X.A)(hb:aw X.K fd ps ds)(hd:aU dvs ds)(hx:kf CX X E)
  (ht:eval (.Call (.Attribute o m apos) [] [] pos) X.env=(do
   let ov ←eval o X.env
   standAt apos.atName
   let (f,first) ←holding [ov] (getMethod ov m pl)
   callWith pos f first (backTo pos (starEach [] X.env)) (backToKw pos (keywordEach [] X.env))):=by rfl) :
  PE X (.Call (.Attribute o m apos) [] [] pos) (Gb C m sp dvs E ta Ng):=by
 intro pins s σ H Q I h;refine W.methodCall_KW (pl:=pl) (thn (he pins s σ H _ I h) λ u s1 ⟨x,H1,I1,rx,q0⟩=>?_) ht;obtain⟨a,dx,fs,ex,ea,l,q⟩:=uS q0;subst ex;obtain rfl:u=Value.ref a:=rx;refine mT I1 ea c hm l ?_;exact W.callWith_K0 (first:=[.ref a]) I1.kIn hm.kp (xX (us:=[.ref a]) (vs:=[.ref a]) F hr hb hd hx I1 (.cons rfl .nil) q)
end
def B1(x:Addr)(Q:VK):VK:=λ v H=>v=.non/\Q (.ref x) H
def IE(x:Addr)(Q:VK)(H:Hp):B1 x Q .non H=Q (.ref x) H:=propext ⟨λ h=>h.2,λ h=>⟨rfl,h⟩⟩
def vJ(C:Addr)(sp:Sp)(dvs:List V)(E:XK)(Q:VK):List V->Hp->Prop:=λ vs H=>∀ (x dx:Addr) (H':Hp),H x=none->H dx=none->dx ≠ x->Ext H H'->H' x=some (.ins C dx [])->H' dx=some (.own x)->sp (.ref x::(vs++dvs)) H' (B1 x Q) E
def Ak(C:Addr)(sp:Sp)(dvs:List V)(E:XK)(Q:VK)(a:V)(H:Hp):vJ C sp dvs E Q [a] H=∀ (x dx:Addr) (H':Hp),H x=none->H dx=none->dx ≠ x->Ext H H'->H' x=some (.ins C dx [])->H' dx=some (.own x)->sp (.ref x::a::dvs) H' (B1 x Q) E:=rfl
def Aj(C:Addr)(sp:Sp)(dvs:List V)(E:XK)(Q:VK)(a b c:V)(H:Hp):vJ C sp dvs E Q [a,b,c] H=∀ (x dx:Addr) (H':Hp),H x=none->H dx=none->dx ≠ x->Ext H H'->H' x=some (.ins C dx [])->H' dx=some (.own x)->sp (.ref x::a::b::c::dvs) H' (B1 x Q) E:=rfl
def Ko(C:Addr)(sp:Sp)(dvs:List V)(E:XK)(t:TA):TE:=λ σ H Q=>t σ H (vJ C sp dvs E Q)
def Ih(C:Addr)(sp:Sp)(dvs:List V)(E:XK)(t:TA)(σ:St)(H:Hp)(Q:VK):Ko C sp dvs E t σ H Q=t σ H (vJ C sp dvs E Q):=rfl
section
variable {X:Cx}{CX:CXT}{k:Nat}{f C:Addr}{fd:FuncData}{ps:List Str}{sp:Sp}{dvs:List V}{ds:List Value}{E:XK}{x m:Str}{p pos apos:Pos}{e o:Expr}{es:List Expr}{ta:TE}{t:TA}
def vJ.to{Q:VK}{vs:List V}{H:Hp}(h:vJ C sp dvs E Q vs H):∀ x dx,H x=none->H dx=none->dx ≠ x->sp (.ref x::(vs++dvs)) (upd (upd H dx (.own x)) x (.ins C dx [])) (λ v H2=>v=.non/\Q (.ref x) H2) E:=λ x dx hx hd ne=>
 h x dx _ hx hd ne ((Ext.new hd).put hx) aq (by rw [ah ne,aq])
def CU(M:Mk X.K C f)(F:bh X.prog X.w X.K X.mg X.base CX k f fd ps sp)(hr:jE (k+1) X.A)(hg:Gl X x)(hm:X.mg x=some (.ref C))(hb:aw X.K fd ps ds)(hd:aU dvs ds)(hx:kf CX X E)
  (ha:PA X (e::es) t) (aS:(x == ("__debug__":Str))=false:=by decide) (he:starEach (e::es) X.env=(false,eval e X.env)::starEach es X.env:=by rfl) (aX:(backTo pos (starEach es X.env)).any (·.1)=false:=by rfl) :
  PE X (.Call (.Name x p) (e::es) [] pos) (Ko C sp dvs E t):=by
 intro pins s σ H Q I h;refine S6 (sM I hg hm ?_ aS);refine W.callWith_K (h₀:=X.base) I.ok.mod.kin M.kp (thn (ha pos pins s σ H _ I h) λ us s1 ⟨vs,H1,I1,r,q⟩=>⟨I1.kIn,?_⟩) he aX;exact Cz M F hr hb hd hx I1 r q.to
end
def yG:Expr->Bool
 | .Starred ..=>false
 | _=>true
def GW{e:Expr}{es:List Expr}{env:Env}(h:yG e=true):starEach (e::es) env=(false,eval e env)::starEach es env:=by
 cases e<;>first|rfl|cases h
def JW{X:Cx}{e:Expr}{es:List Expr}{te:TE}{t:TA}(ha:PE X e te)(hr:PA X es t)(hn:yG e=true:=by rfl):PA X (e::es) (BX te t):=Ht ha hr (GW hn)
def bE(H:Hp)(z:List Int)(y:V):Prop:=∃ q,y=.ref q/\H q=some (.tup (z.map V.int))
def bE.ext{H H':Hp}{z:List Int}{y:V}(h:bE H z y)(e:Ext H H'):bE H' z y:=by
 obtain⟨q,rfl,hq⟩:=h;exact⟨q,rfl,e.at hq⟩
def bE.upd{H:Hp}{z:List Int}{y:V}{p:Addr}{xs:List V}{o:HO}(h:bE H z y)(hp:H p=some (.lst xs)):bE (upd H p o) z y:=by
 obtain⟨q,rfl,hq⟩:=h;exact⟨q,rfl,by rw [ah (λ z=>by rw [z,hp] at hq;cases hq)];exact hq⟩
def aR(H:Hp)(p:Addr)(zs:List (List Int)):Prop:=∃ ys,H p=some (.lst ys)/\Al (bE H) zs ys
def aR.ext{H H':Hp}{p:Addr}{zs:List (List Int)}(h:aR H p zs)(e:Ext H H'):aR H' p zs:=by
 obtain⟨ys,hp,al⟩:=h;exact⟨ys,e.at hp,al.imp λ _ _ r=>r.ext e⟩
def ak{n:Nat}(h:n<=5000):n<=sizeLine:=Sj h (by decide)
def iB{n:Nat}(h:n < 5000):n < sizeLine:=RD h (by decide)
def Om(xs:List V)(H:Hp)(Q:VK):List V->Prop:=λ ys=>xs.length+ys.length<=sizeLine/\∀ (p:Addr) (H':Hp),Ext H H'->H' p=some (.tup (xs++ys))->Q (.ref p) H'
def xv(xs:List V)(H:Hp)(Q:VK)(ys:List V):Om xs H Q ys=(xs.length+ys.length<=sizeLine/\∀ (p:Addr) (H':Hp),Ext H H'->H' p=some (.tup (xs++ys))->Q (.ref p) H'):=rfl
def Oo(b:Addr)(H:Hp)(Q:VK):List V->Prop:=λ xs=>aH (jY H b) (Om xs H Q)
def MF(b:Addr)(H:Hp)(Q:VK)(xs:List V):Oo b H Q xs=aH (jY H b) (Om xs H Q):=rfl
def Ge:R2:=λ x y H Q=>match x,y with
 | .ref l,.ref b=>aH (jY H l) (Oo b H Q)
 | _,_=>False
def Ik(l b:Addr)(H:Hp)(Q:VK):Ge (.ref l) (.ref b) H Q=aH (jY H l) (Oo b H Q):=rfl
def oy{X:Cx}:OpR X (binaryOp .Add) Ge:=by
 intro pins s σ H x y v u Q I rx ry h;unfold Ge at h;split at h
 ·rename_i l b;obtain⟨xs,e1,h⟩:=ai h;obtain⟨ys,e2,hz,k⟩:=ai h;have g1:=um e1;have g2:=um e2
  by_cases hx:xs=[]
  ·subst hx;cases rx;cases ry;obtain⟨its,r1,p1,_⟩:=I.tuple (SqT.of g1);obtain⟨aS,r2,p2,_⟩:=I.tuple (SqT.of g2);obtain⟨⟨cls,dd,data,sl⟩,ho,hc,n,hd⟩:=id p1;obtain⟨⟨a6,a4,data2,a5⟩,aX,a3,n2,hd2⟩:=id p2;simp only at hc hd a3 hd2;subst hc hd a3 hd2;cases r1
   exact concat_meets ⟨_,ho,rfl⟩ ⟨_,aX,rfl⟩ noFill_tuple_add seq_tuple_add UR UI (UH _ _)
    (tuple_addW0 l b #[] aS.toArray n n2 dd a4 sl a5 (by simp)) ⟨ho,aX,show EP X pins σ Q (.ref b) s from ⟨.ref b,H,I,rfl,k b H (Ext.refl _) (by rw [VP];exact g2)⟩⟩
  ·refine Hy pins s σ H (.ref l) (.ref b) v u Q I rx ry ⟨l,b,xs,ys,rfl,rfl,SqT.of g1,SqT.of g2,hx,hz,λ hy=>?_,λ hy p hp=>k p _ (Ext.new hp) aq⟩;subst hy;exact k l H (Ext.refl _) (by rw [T2];exact g1)
 ·exact h.elim
def dv{K:W.Frag}{H:Hp}{α:Type}{R:α->V->Hp->Prop}(hR:∀ z y H H',R z y H->Ext H H'->R z y H'){l:Addr}{ys:List V}{zs:List α}(h:H l=some (.lst ys))(al:Al (λ z y=>R z y H) zs ys) :
  (∀ i z H',zs[i]? = some z->Ext H H'->(Itl K l).go i H'/\∀ x aS,(Itl K l).yld i H' x aS->Ext H' aS/\R z x aS)/\∀ H',Ext H H'->(Itl K l).stop zs.length H':=by
 refine⟨λ i z H' hz e=>?_,λ H' e=>⟨ys,SqL.of (e.at h),by rw [al.1];exact Rl _⟩⟩;have hi:i < ys.length:=by rw [al.1];exact(Rf.mp hz).1
 have hy:ys[i]? = some ys[i]:=Rb hi;refine⟨⟨ys,ys[i],SqL.of (e.at h),hy⟩,λ x aS y=>?_⟩;have hx:x=ys[i]:=RE ((y.2 ys (SqL.of (e.at h))).symm.trans hy);refine⟨by rw [y.1];exact Ext.refl _,?_⟩;rw [hx,y.1];exact hR _ _ _ _ (al.2 i z _ hz hy) e
def axP(a:Int × Int)(x:V)(H:Hp):Prop:=∃ q,x=.ref q/\H q=some (.tup [.int a.1,.int a.2])
def axP.ext{a:Int × Int}{x:V}{H H':Hp}(h:axP a x H)(e:Ext H H'):axP a x H':=by
 obtain⟨q,rfl,hq⟩:=h;exact⟨q,rfl,e.at hq⟩
def ke{H:Hp}{axs:List (Int × Int)}{ys:List V}(al:Al (bE H) (axs.map λ a=>[a.1,a.2]) ys):Al (λ a y=>axP a y H) axs ys:=by
 refine⟨by rw [al.1,Rh],λ i a y ha hy=>?_⟩;obtain⟨q,hq,h⟩:=al.2 i [a.1,a.2] y (by rw [Rq,ha];rfl) hy;exact⟨q,hq,h⟩
abbrev gQ(h:Heap)(z TI TO:Addr)(f0:Value)(f:Bool):Prop:=
 h.get? z=some { cls:=.type "zip",dict:=none,data:=.fields #[f0,.bool f,.bool false,.ref TI,.ref TO],slots:=#[] }
section
variable {prog:Program}{w:World}{A:Around}{E:Value->Shared->Prop}{s:Shared}
def EW{a:Addr}{o:Obj}{Q:Option Obj->Shared->Prop}(ho:s.heap.get? a=some o)(h:Q (some o) s):wpAny (model prog w) A (loadIfAlive a) Q E s:=by
 have h':Q (s.heap.get? a) s:=by rw [ho];exact h
 exact λ _ _ _=>h'
variable {z TI TO i j:Addr}{f g:List Addr}{ti tj:Nat->Heap->Prop}{vi vj:Nat->Option Value}{k m:Nat}{x y:Value}{t:Addr}{fl:Bool}{ot:Obj}
def pU{Q:Bool->Shared->Prop}(hz:gQ s.heap z TI TO (rawInt t) fl)(ht:s.heap.get? t=some ot)
  (hQ:∀ h',gQ h' z TI TO (rawInt t) true->Heap.SameBut z s.heap h'->Q false { s with heap:=h' }):wpAny (model prog w) A (Builtin.SmallTypes.ownedTupleIsFree (.ref z)) Q E s:=by
 unfold Builtin.SmallTypes.ownedTupleIsFree;refine wpAny_bind (wpAny_field hz rfl (x:=rawInt t) rfl ?_)
 show wpAny _ _ (loadIfAlive ((t:Int).toNat) >>= _) _ _ _
 rw [Rt];refine My (EW ht ?_);simp only [Option.isNone_some,SV,Ua];refine My (RX hz rfl (x:=.bool fl) rfl ?_)
 cases fl with
 | true=>
  rw [RH (show ¬ ((Value.bool true != Value.bool true)=true) from Rw)];exact Ri (hQ s.heap hz (Heap.SameBut.refl _ _))
 | false=>
  rw [RP (show (Value.bool false != Value.bool true)=true from rfl)];exact My (R4 hz (by simp) λ h3 z3 s3=>Ri (hQ h3 z3 s3))
def zA(S:Src prog w i f ti vi)(T:Src prog w j g tj vj)(D:fP z TI TO i j f g){Q:Value->Shared->Prop}
  (hz:gQ s.heap z TI TO (rawInt t) fl) (ht:s.heap.get? t=some ot) (aS:IsPair s.heap TI (.ref i) (.ref j)) (hi:ti k s.heap) (hj:tj m s.heap) (hx:vi k=some x) (hy:vj m=some y)
  (hQ:∀ h',gQ h' z TI TO (rawInt t) true->ti (k+1) h'->tj (m+1) h'->IsPair h' s.heap.objs.size x y->h'.objs.size=s.heap.objs.size+1->(∀ c o,c ∉ [z,i,j]->s.heap.get? c=some o->h'.get? c=some o)->Q (.ref s.heap.objs.size) { s with heap:=h' }) :
  wpAny (model prog w) A (Builtin.«zip.__next__» ⟨[.ref z],[]⟩) (λ fin s'=>∃ v,fin=.done (.ret v)/\Q v s') E s:=by
 have iz:i ≠ z:=bc S.mem D.zf;have jz:j ≠ z:=bc T.mem D.zg;refine My (m:=field (.ref z) 2) (RX hz rfl (x:=.bool false) rfl ?_);refine My (m:=field (.ref z) 3) (RX hz rfl (x:=.ref TI) rfl (My (RM aS rfl ?_)));refine My (m:=Builtin.SmallTypes.ownedTupleIsFree (.ref z)) (pU hz ht λ q1 z1 s1=>?_);simp only [SV,Ua];refine My ?_;simp only [List.forIn_toArray,T1,US];refine My (My (SH (My (m:=Builtin.SmallTypes.nextOf (.ref i)) (S.item _ k _ x _ _ (S.but hi s1.extBut D.zf) hx λ q2 i2 s2=>Ri ?_))));have j2:tj m q2:=T.but (T.but hj s1.extBut D.zg) s2.extBut D.ig;refine Ri ?_;refine My (My (SH (My (m:=Builtin.SmallTypes.nextOf (.ref j)) (T.item _ m _ y _ _ j2 hy λ q3 j3 s3=>Ri ?_))));refine Ri (Ri ?_);refine My (wpAny_newTuple (hsz:=(show 2<=sizeLine by decide)) ?_);have sz:q3.objs.size=s.heap.objs.size:=by rw [s3.1,s2.1,s1.1]
 have z3:gQ q3 z TI TO (rawInt t) true:=s3.extBut _ _ jz.symm (s2.extBut _ _ iz.symm z1);have i3:ti (k+1) q3:=S.but i2 s3.extBut D.jf;refine Ri ⟨_,rfl,?_⟩
 show Q (.ref q3.objs.size) _
 have n3:IsPair (q3.push { cls:=.type "tuple",data:=.seq #[x,y] }) q3.objs.size x y:=Rn _ rfl;have n4:(q3.push { cls:=.type "tuple",data:=.seq #[x,y] }).objs.size=q3.objs.size+1:=RT ..;rw [sz] at n3 n4;rw [sz];refine hQ _ (Rc _ z3) (S.keep _ _ _ i3 λ c hc o e=>Rc _ e) (T.keep _ _ _ j3 λ c hc o e=>Rc _ e) n3 n4 λ c o hc e=>?_;simp only [Rz,Rv,RV,T3] at hc;exact Rc _ (s3.extBut _ _ hc.2.2 (s2.extBut _ _ hc.2.1 (s1.extBut _ _ hc.1 e)))
def Cg(hh:A.handled=none)(S:Src prog w i f ti vi)(T:Src prog w j g tj vj)(D:fP z TI TO i j f g){Q:Fin->Shared->Prop}
  (hz:gQ s.heap z TI TO (rawInt t) fl) (ht:s.heap.get? t=some ot) (aS:IsPair s.heap TI (.ref i) (.ref j)) (hi:ti k s.heap) (hj:tj m s.heap) (aX:vi k=none\/vj m=none)
  (hE:∀ h' e,(∀ c o,c ∉ [z,i,j]->s.heap.get? c=some o->h'.get? c=some o)->(∃ o,h'.get? e=some o/\o.cls=.type "StopIteration")->E (.ref e) { s with heap:=h' }) :
  wpAny (model prog w) A (Builtin.«zip.__next__» ⟨[.ref z],[]⟩) Q E s:=by
 refine My (m:=field (.ref z) 2) (RX hz rfl (x:=.bool false) rfl ?_);refine My (m:=field (.ref z) 3) (RX hz rfl (x:=.ref TI) rfl (My (RM aS rfl ?_)));refine My (m:=Builtin.SmallTypes.ownedTupleIsFree (.ref z)) (pU hz ht λ q1 z1 s1=>?_);simp only [SV,Ua];refine My ?_;simp only [List.forIn_toArray,T1,US];refine My (My (SH (My (m:=Builtin.SmallTypes.nextOf (.ref i)) ?_)))
 cases hx:vi k with
 | none=>
  refine S.fin _ k _ _ _ hh (S.but hi s1.extBut D.zf) hx λ q2 e s2 he=>hE q2 e (λ c o hc q=>?_) he;simp only [Rz,Rv,RV,T3] at hc;exact s2 _ _ hc.2.1 (s1.extBut _ _ hc.1 q)
 | some x=>
  have hy:vj m=none:=aX.resolve_left (by rw [hx];exact Uq x);refine S.item _ k _ x _ _ (S.but hi s1.extBut D.zf) hx λ q2 i2 s2=>Ri (Ri ?_);have j2:tj m q2:=T.but (T.but hj s1.extBut D.zg) s2.extBut D.ig;refine My (My (SH (My (m:=Builtin.SmallTypes.nextOf (.ref j)) (T.fin _ m _ _ _ hh j2 hy λ q3 e s3 he=>hE q3 e (λ c o hc q=>?_) he))));simp only [Rz,Rv,RV,T3] at hc;exact s3 _ _ hc.2.2 (s2.extBut _ _ hc.2.1 (s1.extBut _ _ hc.1 q))
def l9(S:Src prog w i f ti vi)(T:Src prog w j g tj vj)(D:fP z TI TO i j f g){Q:Option Value->Shared->Prop}
  (hz:gQ s.heap z TI TO (rawInt t) fl) (ht:s.heap.get? t=some ot) (aS:IsPair s.heap TI (.ref i) (.ref j)) (hi:ti k s.heap) (hj:tj m s.heap) (hx:vi k=some x) (hy:vj m=some y)
  (hQ:∀ h',gQ h' z TI TO (rawInt t) true->ti (k+1) h'->tj (m+1) h'->IsPair h' s.heap.objs.size x y->h'.objs.size=s.heap.objs.size+1->(∀ c o,c ∉ [z,i,j]->s.heap.get? c=some o->h'.get? c=some o)->Q (some (.ref s.heap.objs.size)) { s with heap:=h' }) :
  wpAny (model prog w) A (pyNext (.ref z)) Q E s:=by
 have ty:s.TypeIs (.ref z) "zip":=⟨_,hz,rfl⟩;unfold pyNext;exact wpAny_bind (wpAny_attempt (wpAny_callSpecial?_slot (name:=Str.ofString "__next__") ty F.slot_zip_next (wpAny_call_entry F.slot_zip_next ty F.entry_zip_next (zA S T D hz ht aS hi hj hx hy λ h' c1 c2 c3 c4 c5 c6=>wpAny_pure (hQ h' c1 c2 c3 c4 c5 c6)) (F.args_zip_next_1 _))))
def oN(hh:A.handled=none)(S:Src prog w i f ti vi)(T:Src prog w j g tj vj)(D:fP z TI TO i j f g){Q:Option Value->Shared->Prop}
  (hz:gQ s.heap z TI TO (rawInt t) fl) (ht:s.heap.get? t=some ot) (aS:IsPair s.heap TI (.ref i) (.ref j)) (hi:ti k s.heap) (hj:tj m s.heap) (aX:vi k=none\/vj m=none)
  (hQ:∀ h',(∀ c o,c ∉ [z,i,j]->s.heap.get? c=some o->h'.get? c=some o)->Q none { s with heap:=h' }):wpAny (model prog w) A (pyNext (.ref z)) Q E s:=by
 have ty:s.TypeIs (.ref z) "zip":=⟨_,hz,rfl⟩;unfold pyNext;refine wpAny_bind (wpAny_attempt (wpAny_callSpecial?_slot (name:=Str.ofString "__next__") ty F.slot_zip_next (wpAny_call_entry F.slot_zip_next ty F.entry_zip_next (Cg (show A.in1.handled=none from hh) S T D hz ht aS hi hj aX λ h' e kp he=>?_) (F.args_zip_next_1 _))));obtain⟨o,ho,hc⟩:=he;exact wpAny_bind (wpAny_isInstance (T := "StopIteration") (b:=true) ⟨o,ho,hc⟩ isSubtype_stop (wpAny_pure (hQ _ kp)))
def Zst(ka kb:Bool)(a b z TI TO p q:Addr)(as bs:Array Value)(n:Nat)(h:Heap):Prop:=
 (IsZip h z TI TO .none\/∃ (t:Addr) (fl:Bool) (ot:Obj),gQ h z TI TO (rawInt t) fl/\h.get? t=some ot/\t ∉ [z,TI,TO,p,q])/\IsPair h TI (.ref p) (.ref q)/\(∃ u v,IsPair h TO u v)/\(bf h ka p a n/\SeqAt h ka a as)/\(bf h kb q b n/\SeqAt h kb b bs)
def Zst.keep{ka kb:Bool}{a b z TI TO p q:Addr}{as bs:Array Value}{n:Nat}{h h':Heap}(st:Zst ka kb a b z TI TO p q as bs n h)(k:∀ c o,h.get? c=some o->h'.get? c=some o):Zst ka kb a b z TI TO p q as bs n h':=by
 obtain⟨e0,e1,⟨u,v,e2⟩,⟨e3,e4⟩,e5,e6⟩:=st;refine⟨e0.imp (λ e=>k _ _ e) (λ ⟨t,fl,ot,x1,x2,x3⟩=>⟨t,fl,ot,k _ _ x1,k _ _ x2,x3⟩),k _ _ e1,⟨u,v,k _ _ e2⟩,⟨e3.at λ o e=>k _ o e,e4.at λ o e=>k _ o e⟩,e5.at λ o e=>k _ o e,e6.at λ o e=>k _ o e⟩
variable {ka kb:Bool}{a b p q:Addr}{as bs:Array Value}{n:Nat}
def Cd(nd:[z,TI,TO,p,q].Nodup)(na:a ∉ [z,TI,TO,p,q])(nb:b ∉ [z,TI,TO,p,q]){Q:Option Value->Shared->Prop}(st:Zst ka kb a b z TI TO p q as bs n s.heap)(hx:as[n]? = some x)(hy:bs[n]? = some y)
  (hQ:∀ h',Zst ka kb a b z TI TO p q as bs (n+1) h'->IsPair h' s.heap.objs.size x y->h'.objs.size=s.heap.objs.size+1->(∀ c o,c ∉ [z,TI,TO,p,q]->s.heap.get? c=some o->h'.get? c=some o)->Q (some (.ref s.heap.objs.size)) { s with heap:=h' }) :
  wpAny (model prog w) A (pyNext (.ref z)) Q E s:=by
 obtain⟨e0,e1,⟨u,v,e2⟩,e3,e4⟩:=st;simp only [SY,Rz,Rv,RV,T3,Tq,and_true,TM] at nd na nb;obtain⟨⟨z1,z2,z3,z4⟩,⟨t1,t2,t3⟩,⟨w1,w2⟩,y1⟩:=nd;obtain⟨a1,a2,a3,a4,a5⟩:=na;obtain⟨b1,b2,b3,b4,b5⟩:=nb;have S:=dS (prog:=prog) (w:=w) ka p a a4 as;have T:=dS (prog:=prog) (w:=w) kb q b b5 bs;have D:fP z TI TO p q [p,a] [q,b]:=⟨⟨Ru z1,t1,t2,t3⟩,z2,by simp [z3,Ru a1],by simp [z4,Ru b1],by simp [w1,Ru a3],by simp [w2,Ru b3],by simp [y1,Ru b4],by simp [Ru y1,Ru a5]⟩
 have zl:z < s.heap.objs.size/\TI < s.heap.objs.size/\TO < s.heap.objs.size/\p < s.heap.objs.size/\q < s.heap.objs.size:=by
  refine⟨?_,Rk e1,Rk e2,?_,?_⟩
  ·rcases e0 with e|⟨_,_,_,e,_⟩<;>exact Rk e
  ·obtain⟨o,_,e,_⟩:=e3.1.obj;exact Rk e
  ·obtain⟨o,_,e,_⟩:=e4.1.obj;exact Rk e
 have nw:s.heap.objs.size ∉ [z,TI,TO,p,q]:=by
  simp only [Rz,Rv,RV,T3];exact⟨Sd zl.1,Sd zl.2.1,Sd zl.2.2.1,Sd zl.2.2.2.1,Sd zl.2.2.2.2⟩
 rcases e0 with e0|⟨t,fl,ot,e0,et,nt⟩
 ·refine gR S T D e0 e1 e2 e3 e4 hx hy λ h1 c1 c2 c3 c4 c5 c6 c7=>hQ h1 ⟨.inr ⟨_,false,_,c1,c5,nw⟩,c7 TI _ (by simp [Ru z1,t1,t2,t3]) e1,⟨_,_,c2⟩,c3,c4⟩ c5 c6 λ c o hc e=>c7 c o (λ z=>hc ?_) e;simp only [Rz,Rv,RV] at z ⊢
  rcases z with h|h|h|h<;>simp [h]
 ·refine l9 S T D e0 et e1 e3 e4 hx hy λ h1 c1 c3 c4 c5 c6 c7=>hQ h1 ⟨.inr ⟨_,true,_,c1,c7 t _ (λ z=>nt ?_) et,nt⟩,c7 TI _ (by simp [Ru z1,t2,t3]) e1,⟨_,_,c7 TO _ (by simp [Ru z2,w1,w2]) e2⟩,c3,c4⟩ c5 c6 λ c o hc e=>c7 c o (λ z=>hc ?_) e
  all_goals
   simp only [Rz,Rv,RV] at z ⊢
   rcases z with h|h|h<;>simp [h]
def Gx(hh:A.handled=none)(nd:[z,TI,TO,p,q].Nodup)(na:a ∉ [z,TI,TO,p,q])(nb:b ∉ [z,TI,TO,p,q]){Q:Option Value->Shared->Prop}(st:Zst ka kb a b z TI TO p q as bs n s.heap)(aS:as[n]? = none\/bs[n]? = none)
  (hQ:∀ h',(∀ c o,c ∉ [z,TI,TO,p,q]->s.heap.get? c=some o->h'.get? c=some o)->Q none { s with heap:=h' }) :
  wpAny (model prog w) A (pyNext (.ref z)) Q E s:=by
 obtain⟨e0,e1,⟨u,v,e2⟩,e3,e4⟩:=st;simp only [SY,Rz,Rv,RV,T3,Tq,and_true,TM] at nd na nb;obtain⟨⟨z1,z2,z3,z4⟩,⟨t1,t2,t3⟩,⟨w1,w2⟩,y1⟩:=nd;obtain⟨a1,a2,a3,a4,a5⟩:=na;obtain⟨b1,b2,b3,b4,b5⟩:=nb;have S:=dS (prog:=prog) (w:=w) ka p a a4 as;have T:=dS (prog:=prog) (w:=w) kb q b b5 bs;have D:fP z TI TO p q [p,a] [q,b]:=⟨⟨Ru z1,t1,t2,t3⟩,z2,by simp [z3,Ru a1],by simp [z4,Ru b1],by simp [w1,Ru a3],by simp [w2,Ru b3],by simp [y1,Ru b4],by simp [Ru y1,Ru a5]⟩
 rcases e0 with e0|⟨t,fl,ot,e0,et,nt⟩
 ·refine iO hh S T D e0 e1 e2 e3 e4 aS λ h1 kp=>hQ h1 λ c o hc e=>kp c o (λ z=>hc ?_) e;simp only [Rz,Rv,RV] at z ⊢
  rcases z with h|h|h|h<;>simp [h]
 ·refine oN hh S T D e0 et e1 e3 e4 aS λ h1 kp=>hQ h1 λ c o hc e=>kp c o (λ z=>hc ?_) e;simp only [Rz,Rv,RV] at z ⊢
  rcases z with h|h|h<;>simp [h]
structure Got(h:Heap)(lo:Nat)(as bs:Array Value)(ts:List Addr):Prop where
 nd:ts.Nodup
 lo:∀ t∈ts,lo<=t
 get:∀ (m:Nat) t,ts[m]? = some t->∃ x y,as[m]? = some x/\bs[m]? = some y/\IsPair h t x y
def Got.lt{h:Heap}{lo:Nat}{as bs:Array Value}{ts:List Addr}(G:Got h lo as bs ts):∀ t∈ts,t < h.objs.size:=λ t ht=>by
 obtain⟨m,hm,rfl⟩:=Ti ht;obtain⟨x,y,_,_,e⟩:=G.get m _ (Rb hm);exact Rk e
def Ce{R:Result->Shared->Prop}(hh:A.handled=none)(nd:[z,TI,TO,p,q].Nodup)(na:a ∉ [z,TI,TO,p,q])(nb:b ∉ [z,TI,TO,p,q])(S lo:Addr)(hS:S ∉ [z,TI,TO,p,q])(aS:a ≠ S)(bS:b ≠ S)(a9:∀ c∈[z,TI,TO,p,q],lo<=c)(bb:lo<=S)(hsz:min as.size bs.size<=sizeLine) :
  ∀ (k n:Nat) (s:Shared) (ts:List Addr) (c:Nat),min as.size bs.size - n=k->n<=min as.size bs.size->Zst ka kb a b z TI TO p q as bs n s.heap->s.heap.get? S=some { cls:=.type "list",dict:=none,data:=.seq (ts.map Value.ref).toArray c,slots:=#[] }->ts.length=n->Got s.heap lo as bs ts->S ∉ ts->(∀ t∈ts,t ∉ [z,TI,TO,p,q])->lo<=s.heap.objs.size →
  (∀ h' a3 c',h'.get? S=some { cls:=.type "list",dict:=none,data:=.seq (a3.map Value.ref).toArray c',slots:=#[] }->a3.length=min as.size bs.size->Got h' lo as bs a3->S ∉ a3->(∀ d o,d < lo->s.heap.get? d=some o->h'.get? d=some o)->R (.ok (.ret .none)) { s with heap:=h' }) →
  codeAny (model prog w) A (.builtin "list.extend.loop" ⟨[.ref S,.ref z,.none],[]⟩) R s:=by
 intro k
 induction k with
 | zero=>
  intro n s ts c hk hn st hL hl G a4 a5 a7 hR;refine Tc PySem.F.entry_extend_loop ?_;rw [SJ Tw _]
  show wpAny _ A.in1 (pyNext (.ref z) >>= _) _ _ s
  refine My (Gx (show A.in1.handled=none from hh) nd na nb st ?_ λ h' kp=>?_)
  ·by_cases h1:as.size<=n
   ·exact .inl (Array.getElem?_eq_none h1)
   ·exact .inr (Array.getElem?_eq_none (by omega))
  ·exact Ri (hR h' ts c (kp _ _ hS hL) (by omega) ⟨G.nd,G.lo,λ m t ht=>by
    obtain⟨x,y,e1,e2,e3⟩:=G.get m t ht;exact⟨x,y,e1,e2,kp _ _ (a5 t (Rx ht)) e3⟩⟩ a4 λ d o hd e=>kp d o (λ z=>absurd (a9 d z) (Nat.not_le.mpr hd)) e)
 | succ k ih=>
  intro n s ts c hk hn st hL hl G a4 a5 a7 hR;have h1:n < as.size:=by omega
  have h2:n < bs.size:=by omega
  refine Tc PySem.F.entry_extend_loop ?_;rw [SJ Tw _]
  show wpAny _ A.in1 (pyNext (.ref z) >>= _) _ _ s
  refine My (Cd nd na nb st (TB h1) (TB h2) λ h' bt pr sz kp=>?_);have a8:=kp _ _ hS hL
  show wpAny _ A.in1 (updateSeq S (·.push (.ref s.heap.objs.size)) >>= _) _ _ _
  refine My ?_;have Sn:S ≠ s.heap.objs.size:=RC (Rk hL);have aX:∀ d o,d ≠ S->h'.get? d=some o->(h'.update S (Obj.mapSeq (·.push (.ref s.heap.objs.size)))).get? d=some o:=λ d o hd e=>(RK _ _ (Ru hd)).trans e
  have G':Got (h'.update S (Obj.mapSeq (·.push (.ref s.heap.objs.size)))) lo as bs (ts++[s.heap.objs.size]):=by
   refine⟨?_,λ t ht=>?_,λ m t ht=>?_⟩
   ·rw [Sm];refine⟨G.nd,by simp,λ x hx y hy=>?_⟩;rw [Rg.mp hy];exact RC (G.lt x hx)
   ·rcases RQ.mp ht with ht|ht
    ·exact G.lo t ht
    ·rw [Rg.mp ht];exact a7
   ·by_cases hm:m < ts.length
    ·rw [R8 hm] at ht;obtain⟨x,y,e1,e2,e3⟩:=G.get m t ht;have a6:=Rx ht;exact⟨x,y,e1,e2,aX _ _ (λ z=>a4 (z ▸ a6)) (kp _ _ (a5 t a6) e3)⟩
    ·rw [R1 (by omega)] at ht
     have h0:m - ts.length=0:=by
      rcases Nat.eq_zero_or_pos (m - ts.length) with h|h
      ·exact h
      ·rw [SK (by simp;omega)] at ht;cases ht
     rw [h0] at ht;simp at ht;subst ht;have bx:m=n:=by omega
     subst bx;exact⟨_,_,TB h1,TB h2,aX _ _ (Ru Sn) pr⟩
  have nw:s.heap.objs.size ∉ [z,TI,TO,p,q]:=by
   obtain⟨e0,e1,⟨u,v,e2⟩,e3,e4⟩:=st;simp only [Rz,Rv,RV,T3];refine⟨?_,Sd (Rk e1),Sd (Rk e2),?_,?_⟩
   ·rcases e0 with e|⟨_,_,_,e,_⟩<;>exact Sd (Rk e)
   ·obtain⟨o,_,e,_⟩:=e3.1.obj;exact Sd (Rk e)
   ·obtain⟨o,_,e,_⟩:=e4.1.obj;exact Sd (Rk e)
  have stK:Zst ka kb a b z TI TO p q as bs (n+1) (h'.update S (Obj.mapSeq (·.push (.ref s.heap.objs.size)))):=by
   obtain⟨e0,e1,⟨u,v,e2⟩,⟨e3,e4⟩,e5,e6⟩:=bt;simp only [Rz,Rv,RV,T3] at hS;obtain⟨n1,n2,n3,n4,n5⟩:=hS;refine⟨e0.imp (λ e=>aX _ _ (Ru n1) e) (λ ⟨t,fl,ot,x1,x2,x3⟩=>?_),aX _ _ (Ru n2) e1,⟨u,v,aX _ _ (Ru n3) e2⟩,⟨e3.at λ o e=>aX _ o (Ru n4) e,e4.at λ o e=>aX _ o aS e⟩,e5.at λ o e=>aX _ o (Ru n5) e,e6.at λ o e=>aX _ o bS e⟩
   by_cases htS:t=S
   ·subst htS;exact⟨t,fl,_,aX _ _ (Ru n1) x1,R3 _ a8 rfl,x3⟩
   ·exact⟨t,fl,ot,aX _ _ (Ru n1) x1,aX _ _ htS x2,x3⟩
  have b1:(h'.update S (Obj.mapSeq (·.push (Value.ref s.heap.objs.size)))).get? S=some { cls:=.type "list",dict:=none,data:=.seq ((ts++[s.heap.objs.size]).map Value.ref).toArray (c+1),slots:=#[] }:=by
   rw [R3 (Obj.mapSeq (·.push (Value.ref s.heap.objs.size))) a8 rfl];simp [Obj.mapSeq]
  refine SG a8 rfl (Ri ⟨S7 Tw _,ih (n+1) _ (ts++[s.heap.objs.size]) _ (by omega) (by omega) stK b1 (by simp [hl]) G' ?_ ?_ ?_ λ h3 b2 c3 r1 r2 r3 r4 r5=>hR h3 b2 c3 r1 r2 r3 r4 λ d o hd e=>r5 d o hd ?_⟩) ?_ ?_
  ·intro hm
   rcases RQ.mp hm with hm|hm
   ·exact a4 hm
   ·exact Sn (Rg.mp hm)
  ·intro t ht
   rcases RQ.mp ht with ht|ht
   ·exact a5 t ht
   ·rw [Rg.mp ht];exact nw
  ·show lo<=(h'.update S _).objs.size
   rw [Va,sz];exact Sj a7 (Ur _)
  ·exact aX _ _ (RC (RD hd bb)) (kp d o (λ z=>absurd (a9 d z) (Nat.not_le.mpr hd)) e)
  ·simp;omega
  ·simp;omega
def vM:typeLookup (.type "zip") "__len__"=pure none:=by rw [typeLookup_type,builtinLookup_eq_fast];kernel_rfl
def sV:typeLookup (.type "zip") "__length_hint__"=pure none:=by rw [typeLookup_type,builtinLookup_eq_fast];kernel_rfl
def Zst.ty(st:Zst ka kb a b z TI TO p q as bs n s.heap):s.TypeIs (.ref z) "zip":=by
 rcases st.1 with e|⟨_,_,_,e,_⟩
 ·exact⟨_,e,rfl⟩
 ·exact⟨_,e,rfl⟩
def Zst.but{h h':Heap}{S:Addr}(st:Zst ka kb a b z TI TO p q as bs 0 h)(e0:IsZip h z TI TO .none)(hS:S ∉ [z,TI,TO,p,q])(aS:a ≠ S)(bS:b ≠ S)(k:∀ c o,c ≠ S->h.get? c=some o->h'.get? c=some o):Zst ka kb a b z TI TO p q as bs 0 h':=by
 obtain⟨_,e1,⟨u,v,e2⟩,⟨e3,e4⟩,e5,e6⟩:=st;simp only [Rz,Rv,RV,T3] at hS;obtain⟨n1,n2,n3,n4,n5⟩:=hS;exact⟨.inl (k _ _ (Ru n1) e0),k _ _ (Ru n2) e1,⟨u,v,k _ _ (Ru n3) e2⟩,⟨e3.at λ o e=>k _ o (Ru n4) e,e4.at λ o e=>k _ o aS e⟩,e5.at λ o e=>k _ o (Ru n5) e,e6.at λ o e=>k _ o bS e⟩
def pw{Q:Value->Shared->Prop}(hh:A.handled=none)(nd:[z,TI,TO,p,q].Nodup)(na:a ∉ [z,TI,TO,p,q])(nb:b ∉ [z,TI,TO,p,q])(lo:Addr)(a6:∀ c∈[z,TI,TO,p,q],lo<=c)(hsz:min as.size bs.size<=sizeLine)
  (e0:IsZip s.heap z TI TO .none) (st:Zst ka kb a b z TI TO p q as bs 0 s.heap)
  (hQ:∀ h' aS c',h'.get? s.heap.objs.size=some { cls:=.type "list",dict:=none,data:=.seq (aS.map Value.ref).toArray c',slots:=#[] }->aS.length=min as.size bs.size->Got h' lo as bs aS->s.heap.objs.size ∉ aS->(∀ d o,d < lo->s.heap.get? d=some o->h'.get? d=some o)->Q (.ref s.heap.objs.size) { s with heap:=h' }) :
  wpAny (model prog w) A (call (.type "list") [.ref z]) Q E s:=by
 have zl:∀ c∈[z,TI,TO,p,q],c < s.heap.objs.size:=by
  obtain⟨_,e1,⟨u,v,e2⟩,⟨e3,e4⟩,e5,e6⟩:=st;intro c hc;simp only [Rz,Rv,RV] at hc
  rcases hc with rfl|rfl|rfl|rfl|rfl
  ·exact Rk e0
  ·exact Rk e1
  ·exact Rk e2
  ·obtain⟨o,_,e,_⟩:=e3.obj;exact Rk e
  ·obtain⟨o,_,e,_⟩:=e5.obj;exact Rk e
 have aX:s.heap.objs.size ∉ [z,TI,TO,p,q]:=λ hm=>R9 _ (zl _ hm);have bt:s.heap.objs.size ≠ z:=λ e=>aX (by simp [e]);have al:a < s.heap.objs.size:=by obtain⟨o,_,e,_⟩:=st.2.2.2.1.2.obj;exact Rk e
 have bl:b < s.heap.objs.size:=by obtain⟨o,_,e,_⟩:=st.2.2.2.2.2.obj;exact Rk e
 have a7:lo<=s.heap.objs.size:=Ue (Nat.lt_of_le_of_lt (a6 z (by simp)) (zl z (by simp)))
 refine callType_codes (Q₁:=λ obj s₁=>obj=.ref s.heap.objs.size/\s₁={ s with heap:=s.heap.push { cls:=.type "list",data:=.seq #[] } }) PySem.F.called_list (PySem.F.typeCall_list_1 _) PySem.F.entry_list_init
  (code_list_new _ ⟨rfl,rfl⟩) λ obj s₁ h₁=>?_
 obtain⟨rfl,rfl⟩:=h₁;have hS:(s.heap.push { cls:=.type "list",data:=.seq #[] }).get? s.heap.objs.size=some { cls:=.type "list",data:=.seq #[] }:=Rn _ rfl;refine⟨⟨_,hS,rfl⟩,PySem.F.args_list_init_2 _ _,?_⟩
 show wpAny _ A.in1.in1 (do let old ←Builtin.List.listItems (.ref s.heap.objs.size);Builtin.List.listUpdate (.ref s.heap.objs.size) (λ _=>#[]);letGo old.toList.reverse;Builtin.List.listExtendWith (.ref s.heap.objs.size) (.ref z) .none) _ _ _
 refine wpAny_bind ?_;unfold Builtin.List.listItems;refine wpAny_bind (wpAny_seqItems hS rfl (wpAny_pure ?_))
 show wpAny _ A.in1.in1 (updateSeq s.heap.objs.size (λ _=>#[]) >>= λ _=>letGo (#[]:Array Value).toList.reverse >>= λ _=>Builtin.List.listExtendWith (.ref s.heap.objs.size) (.ref z) .none) _ _ _
 refine My (SG hS rfl ?_);have a3:=R3 (Obj.mapSeq (λ _=>(#[]:Array Value))) hS rfl;refine My (Sz ?_);have k1:∀ c o,s.heap.get? c=some o->((s.heap.push { cls:=.type "list",data:=.seq #[] }).update s.heap.objs.size (Obj.mapSeq (λ _=>(#[]:Array Value)))).get? c=some o:=λ c o e=>(RK _ _ (Sd (Rk e))).trans (Rc _ e);have a4:=st.keep k1;have e1:=k1 _ _ e0;have a8:((s.heap.push { cls:=.type "list",data:=.seq #[] }).update s.heap.objs.size (Obj.mapSeq (λ _=>(#[]:Array Value)))).objs.size=s.heap.objs.size+1:=by rw [Va,RT]
 generalize (s.heap.push { cls:=.type "list",data:=.seq #[] }).update s.heap.objs.size (Obj.mapSeq (λ _=>(#[]:Array Value)))=hp at a3 k1 a4 e1 a8;unfold Builtin.List.listExtendWith;have a5:Shared.TypeIs { s with heap:=hp } (.ref z) "zip":=Zst.ty (s:={ s with heap:=hp }) a4;refine wpAny_bind (wpAny_typeOf a5 ?_);have h1:Builtin.List.listSameRef (.ref s.heap.objs.size) (.ref z)=false:=by simp [Builtin.List.listSameRef,bt]
 have h2:(Value.type "zip" == Value.type "list")=false:=by decide
 have h3:(Value.type "zip" == Value.type "tuple")=false:=by decide
 simp only [h1,h2,h3,Bool.or_false,Bool.false_eq_true,if_false];refine wpAny_bind (wpAny_pyIter_zip e1 ?_);refine wpAny_bind (wpAny_holding ?_);unfold Builtin.List.listLengthHint;refine wpAny_bind (wpAny_specialOf a5 vM ?_)
 show wpAny _ A.in1.in1 (specialOf (Value.ref z) (Str.ofString "__length_hint__") >>= _) _ _ _
 refine My (Ub a5 sV ?_);refine Ri ?_
 show wpAny _ A.in1.in1 (rule "list.extend.makes-room" >>= λ _=>Builtin.List.listTouch (.ref s.heap.objs.size) >>= λ _=>
  again (.builtin "list.extend.loop" ⟨[.ref s.heap.objs.size,.ref z,.none],[]⟩)) _ _ _
 refine My (Um ?_);refine My ?_
 show wpAny _ A.in1.in1 (updateSeq s.heap.objs.size (·.push .none) >>= λ _=>updateSeq s.heap.objs.size (·.pop)) _ _ _
 refine My (SG a3 rfl ?_);have a9:=R3 (Obj.mapSeq (·.push Value.none)) a3 rfl;refine SG (hz:=by seq_fits) a9 rfl ?_;have bx:=R3 (Obj.mapSeq (·.pop)) a9 rfl
 have bb:∀ c o,c ≠ s.heap.objs.size->hp.get? c=some o->((hp.update s.heap.objs.size (Obj.mapSeq (·.push Value.none))).update s.heap.objs.size (Obj.mapSeq (·.pop))).get? c=some o:=
  λ c o hc e=>(RK _ _ (Ru hc)).trans ((RK _ _ (Ru hc)).trans e)
 have bS:=a4.but e1 aX (RC al) (RC bl) bb;refine Ri ⟨S7 Tw _,Ce (A:=A.in1) hh nd na nb s.heap.objs.size lo aX (RC al) (RC bl) a6 a7 hsz _ 0 _ [] _ rfl (So _) bS (by exact bx) rfl ⟨TM,λ t h=>absurd h Rv,λ m t h=>by simp at h⟩ (by simp) (λ t h=>absurd h Rv) ?_ λ h' aS c' r1 r2 r3 r4 r5=>?_⟩
 ·show lo<=((hp.update _ _).update _ _).objs.size
  rw [Va,Va,a8];exact Sj a7 (Ur _)
 ·refine⟨rfl,hQ h' aS c' r1 r2 r3 r4 λ d o hd e=>r5 d o hd (bb d o (RC (Rk e)) (k1 d o e))⟩
end
section
variable {X:Cx}{pins:List (Addr × Obj)}{σ:St}{s:Shared}
def Inv.adoptAll:∀ (ts:List Addr) (zs:List (V × V)){H:Hp},Inv X pins σ H s->ts.length=zs.length->ts.Nodup->(∀ t∈ts,Ca X pins t/\H t=none)->(∀ (m:Nat) t z,ts[m]? = some t->zs[m]? = some z->∃ u v,bD z.1 u/\bD z.2 v/\IsPair s.heap t u v) →
  ∃ H',Inv X pins σ H' s/\Ext H H'/\(∀ c,c ∉ ts->H' c=H c)/\∀ (m:Nat) t z,ts[m]? = some t->zs[m]? = some z->H' t=some (.tup [z.1,z.2])
 | [],zs,H,I,_,_,_,_=>⟨H,I,Ext.refl _,λ _ _=>rfl,λ m t z h=>by simp at h⟩
 | t::ts,[],H,I,hl,_,_,_=>by simp at hl
 | t::ts,z::zs,H,I,hl,nd,hn,hp=>by
  rw [SY] at nd;obtain⟨N,ht⟩:=hn t Rr;obtain⟨u,v,ru,rv,pr⟩:=hp 0 t z rfl rfl;have I1:=I.adopt (o:=.tup [z.1,z.2]) N ht ⟨(show 2<=sizeLine by decide),[u,v],.cons ru (.cons rv .nil),⟨_,pr,rfl,_,rfl⟩⟩;have up:∀ c∈ts,c ≠ t:=λ c hc e=>nd.1 (e ▸ hc);obtain⟨H',I',e',q',g'⟩:=Inv.adoptAll ts zs I1 (by simpa using hl) nd.2 (λ c hc=>⟨(hn c (Ro _ hc)).1,by rw [ah (up c hc)];exact(hn c (Ro _ hc)).2⟩) λ m t' z' h1 h2=>hp (m+1) t' z' (by simpa using h1) (by simpa using h2);refine⟨H',I',(Ext.new ht).trans e',λ c hc=>?_,λ m t' z' h1 h2=>?_⟩
  ·rw [q' c (λ h=>hc (Ro _ h)),ah (λ h=>hc (by rw [h];exact Rr))]
  ·cases m with
   | zero=>
    simp at h1 h2;subst h1;subst h2;rw [q' t nd.1,aq]
   | succ m=>exact g' m t' z' (by simpa using h1) (by simpa using h2)
end
def lzK(xs ys:List V)(H:Hp)(Q:VK):Prop:=∀ (D:Addr) (ts:List V) (H':Hp),H D=none->Ext H H'->H' D=some (.lst ts)->Al (λ z y=>EX z y H') (xs.zip ys) ts->Q (.ref D) H'
def FE(xs ys:List V)(H:Hp)(Q:VK):lzK xs ys H Q=∀ (D:Addr) (ts:List V) (H':Hp),H D=none->Ext H H'->H' D=some (.lst ts)->Al (λ z y=>EX z y H') (xs.zip ys) ts->Q (.ref D) H':=rfl
def JR(xs:List V)(H:Hp)(Q:VK):HO->Prop:=λ o=>match o with
 | .lst ys=>lzK xs ys H Q
 | .tup ys=>lzK xs ys H Q
 | _=>False
def Dx(xs ys:List V)(H:Hp)(Q:VK):JR xs H Q (.lst ys)=lzK xs ys H Q:=rfl
def Nt(b:Addr)(H:Hp)(Q:VK):HO->Prop:=λ o=>match o with
 | .lst xs=>aH (H b) (JR xs H Q)
 | .tup xs=>aH (H b) (JR xs H Q)
 | _=>False
def Dy(b:Addr)(xs:List V)(H:Hp)(Q:VK):Nt b H Q (.lst xs)=aH (H b) (JR xs H Q):=rfl
def J0(Q:VK):List V->Hp->Prop:=λ vs H=>match vs with
 | [.ref a,.ref b]=>aH (H a) (Nt b H Q)
 | _=>False
def Mo(Q:VK)(a b:Addr)(H:Hp):J0 Q [.ref a,.ref b] H=aH (H a) (Nt b H Q):=rfl
def tLZ(ta:TA):TE:=λ σ H Q=>ta σ H (J0 Q)
def OV(ta:TA)(σ:St)(H:Hp)(Q:VK):tLZ ta σ H Q=ta σ H (J0 Q):=rfl
def Jh{Q:VK}{vs:List V}{H:Hp}(h:J0 Q vs H):∃ a b ka kb xs ys,vs=[.ref a,.ref b]/\SqK ka H a xs/\SqK kb H b ys/\lzK xs ys H Q:=by
 unfold J0 at h;split at h
 ·rename_i a b;obtain⟨o,e,h⟩:=ai h;unfold Nt at h;split at h
  ·rename_i xs;obtain⟨o',e',h⟩:=ai h;unfold JR at h;split at h
   ·exact⟨a,b,false,false,xs,_,rfl,e,e',h⟩
   ·exact⟨a,b,false,true,xs,_,rfl,e,e',h⟩
   ·exact h.elim
  ·rename_i xs;obtain⟨o',e',h⟩:=ai h;unfold JR at h;split at h
   ·exact⟨a,b,true,false,xs,_,rfl,e,e',h⟩
   ·exact⟨a,b,true,true,xs,_,rfl,e,e',h⟩
   ·exact h.elim
  ·exact h.elim
 ·exact h.elim
def Inv.sqLe{X:Cx}{pins:List (Addr × Obj)}{σ:St}{H:Hp}{s:Shared}{k:Bool}{a:Addr}{xs:List V}(I:Inv X pins σ H s)(h:SqK k H a xs):xs.length<=sizeLine:=by
 cases k
 ·obtain⟨_,_,_,h⟩:=I.list (SqL.of h);exact h
 ·obtain⟨_,_,_,h⟩:=I.tuple (SqT.of h);exact h
section
variable {X:Cx}
def pX:∀ ts:List Addr,aU (ts.map V.ref) (ts.map Value.ref)
 | []=>.nil
 | _::ts=>.cons rfl (pX ts)
def jm{a b:Expr}{ta:TA}{p p2 pos aS:Pos}(hc:X.calm=true)(hg:Gl X "list")(hm:X.mg "list"=none)(bb:Gl X "zip")(bt:X.mg "zip"=none)(ha:PA X [a,b] ta)(hs:starEach [a,b] X.env=[(false,eval a X.env),(false,eval b X.env)]:=by rfl)(a4:starEach [b] X.env=[(false,eval b X.env)]:=by rfl)(a5:starEach [Expr.Call (.Name "zip" p2) [a,b] [] aS] X.env=[(false,eval (Expr.Call (.Name "zip" p2) [a,b] [] aS) X.env)]:=by rfl)(a6:starEach ([]:List Expr) X.env=[]:=by rfl) :
  PE X (.Call (.Name "list" p) [.Call (.Name "zip" p2) [a,b] [] aS] [] pos) (tLZ ta):=by
 intro pins s σ H Q I h;refine S6 (eN I hg hm (show bootBuiltins "list"=some (.type "list") by decide +kernel) ?_);refine RY ?_ (by rw [a5,a6]) (by rw [a6];rfl);rw [a5]
 show wpAny _ _ (spliced ((false,eval _ X.env)::[])) _ _ s
 refine Ts ?_;refine Call_ (eN I bb bt (show bootBuiltins "zip"=some (.type "zip") by decide +kernel) (RY (thn (ha aS pins s σ H _ I h) λ us s1 ⟨vs,H1,I1,r1,q1⟩=>?_) (by rw [hs,a4]) (by rw [a4];rfl)));obtain⟨a,b,ka,kb,xs,ys,rfl,sa,sb,q⟩:=Jh q1
 cases r1 with
 | cons r rr=>
  cases rr with
  | cons r' rr=>
   cases rr;cases r;cases r';obtain⟨as,ra,aX⟩:=I1.sq sa;obtain⟨bs,rb,a3⟩:=I1.sq sb;have la:=ra.length;have lb:=rb.length;have lz:=I1.sqLe sa;have bS:=I1.sqLe sb;refine yV aX a3 λ h' n hn e1 e2 e3 e4 e5 e6 e7=>?_;refine Uo ?_
   have nn:∀ c∈[n+4,n+2,n+3,n,n+1],n<=c:=λ c hc=>by
    simp only [Rz,Rv,RV] at hc
    rcases hc with rfl|rfl|rfl|rfl|rfl<;>omega
   have al:a < n:=by rw [hn];obtain⟨o,_,e,_⟩:=aX.obj;exact Rk e
   have bl:b < n:=by rw [hn];obtain⟨o,_,e,_⟩:=a3.obj;exact Rk e
   refine pw (s:={ s1 with heap:=h' }) (I1.ok.hd hc) (by simp) (λ z=>absurd (nn a z) (Nat.not_le.mpr al)) (λ z=>absurd (nn b z) (Nat.not_le.mpr bl)) n nn (by simp;omega) e1 ⟨.inl e1,e2,⟨_,_,e3⟩,⟨e4,aX.at λ o e=>e7 _ o e⟩,e5,a3.at λ o e=>e7 _ o e⟩ λ h2 ts c r1 r2 G r4 r5=>?_;have bx:h2.get? (n+5)=some { cls:=.type "list",dict:=none,data:=.seq (ts.map Value.ref).toArray c,slots:=#[] }:=by rw [←e6];exact r1
   have I2:Inv X pins σ H1 { s1 with heap:=h2 }:=I1.kept (t':=s1.toks) λ c o e=>r5 c o (by rw [hn];exact Rk e) (e7 c o e);have a7:ts.length=(xs.zip ys).length:=by rw [r2,Tb];simp;omega
   have fr:∀ t,n<=t->Ca X pins t/\H1 t=none:=λ t ht=>⟨I1.newAt (by rw [←hn];exact ht),I1.hok.fresh (by rw [←hn];exact ht)⟩
   obtain⟨H2,I3,x2,q2,g2⟩:=I2.adoptAll ts (xs.zip ys) a7 G.nd (λ t ht=>fr t (G.lo t ht)) λ m t z h1 h2=>by
    obtain⟨u,v,g1,g2,g3⟩:=G.get m t h1;rw [Sa] at h2;obtain⟨u',hu,ru⟩:=ra.get h2.1;obtain⟨v',hv,rv⟩:=rb.get h2.2;have a8:as.toArray[m]? = some u':=by simpa using hu
    have a9:bs.toArray[m]? = some v':=by simpa using hv
    rw [g1] at a8;rw [g2] at a9;cases a8;cases a9;exact⟨u,v,ru,rv,g3⟩
   have hD:H2 (n+5)=none:=by
    rw [q2 _ (by rw [←e6];exact r4)];exact(fr (n+5) (Sg ..)).2
   have I4:=I3.adopt (o:=.lst (ts.map V.ref)) (fr (n+5) (Sg ..)).1 hD ⟨by rw [Rh,r2];simp;omega,ts.map Value.ref,c,pX ts,bx⟩;refine⟨.ref (n+5),_,I4,by rw [←e6];rfl,q (n+5) (ts.map V.ref) _ (fr (n+5) (Sg ..)).2 (x2.trans (Ext.new hD)) aq ⟨by rw [Rh,a7],λ m z y hz hy=>?_⟩⟩;rw [Rq] at hy;obtain⟨t,ht,rfl⟩:=Rm.mp hy;exact⟨t,rfl,by rw [ah (λ e=>r4 (by rw [e6,←e];exact Rx ht))];exact g2 m t z ht hz⟩
end
def Gk(H:Hp)(Q:VK):List Int->Prop:=λ ns=>0 < ns.length/\∀ M,M∈ns->(∀ a∈ns,M<=a)->Q (.int M) H
def kh(H:Hp)(Q:VK)(ns:List Int):Gk H Q ns=(0 < ns.length/\∀ M,M∈ns->(∀ a∈ns,M<=a)->Q (.int M) H):=rfl
def Gm(H:Hp)(Q:VK):List Int->Prop:=λ ns=>0 < ns.length/\∀ M,M∈ns->(∀ a∈ns,a<=M)->Q (.int M) H
def nB(H:Hp)(Q:VK)(ns:List Int):Gm H Q ns=(0 < ns.length/\∀ M,M∈ns->(∀ a∈ns,a<=M)->Q (.int M) H):=rfl
def FR:List V->Hp->VK->Prop:=λ vs H Q=>match vs with
 | [.ref p]=>aH (aA H p) (dR (Gk H Q))
 | _=>False
def HX(p:Addr)(H:Hp)(Q:VK):FR [.ref p] H Q=aH (aA H p) (dR (Gk H Q)):=rfl
def FU:List V->Hp->VK->Prop:=λ vs H Q=>match vs with
 | [.ref p]=>aH (aA H p) (dR (Gm H Q))
 | _=>False
def HZ(p:Addr)(H:Hp)(Q:VK):FU [.ref p] H Q=aH (aA H p) (dR (Gm H Q)):=rfl
section
variable {X:Cx}
def gN(hc:X.calm=true):cu X (.builtin "min") FR:=by
 intro pins s σ H vs us Q I r h;unfold FR at h;split at h
 ·rename_i p;obtain⟨xs,e,ns,rfl,hn,q⟩:=ai h
  cases r with
  | cons r rr=>
   cases rr;cases r;obtain⟨its,rv,pl,hz⟩:=I.list (SqL.of (bj e));have aS:p < s.heap.objs.size:=by obtain⟨_,e,_⟩:=pl.isList;exact Rk e
   have hlen:its.length=ns.length:=by have:=rv.length;simpa using this.symm
   have hsz:its.toArray.size=ns.length:=by simp [hlen]
   have hP:∀ (i:Nat) (v:Value),its.toArray[i]? = some v->∃ t,v=.int (ns.getD i 0) t:=λ i v hP=>by
    have hv:its[i]? = some v:=by simpa using hP
    have hi:i < ns.length:=by rw [←hlen];exact(Rf.mp hv).1
    obtain⟨u,hu,ru⟩:=rv.get (i:=i) (x:=.int (ns.getD i 0)) (by rw [Rq,Rb hi];simp [List.getD,Rb hi]);rw [hv] at hu;cases hu;exact ru
   refine call_min_walkS (S0 pl.isList ⟨s.heap.objs.size,_,_,_,_,_,_,λ i j=>decide (ns.getD i 0 < ns.getD j 0),rfl,(Vp (show X.A.in1.handled=none from I.ok.hd hc) _ p (RC aS) its.toArray).toS,⟨⟨_,Rn _ rfl,rfl,rfl⟩,pl.isList.push _⟩,λ b hb=>?_,by rw [hsz];exact hn,CmpOf.ints_lt (λ i=>ns.getD i 0) λ i v h=>hP i v h,λ v s' hv hm=>?_⟩)
   ·rw [RT]
    rcases Rz.mp hb with rfl|hb
    ·exact Ss _
    ·rw [Rg.mp hb];exact T7 aS
   ·obtain⟨hp,g,d,tk,os⟩:=s'
    have kp:∀ b o,s.heap.get? b=some o->hp.get? b=some o:=λ b o e=>hm.heap b o (λ aX=>by
     have:b=s.heap.objs.size:=by simpa using aX
     subst this;exact absurd (Rk e) (R9 _)) (Rc _ e)
    have e1:g=s.gens:=hm.gens;have e2:d=s.drawn:=hm.drawn;have e3:os=s.os:=hm.os;subst e1 e2 e3;obtain⟨b1,b2⟩:=argBest_lt (λ i=>ns.getD i 0) (its.toArray.size - 1);have a3:=hP _ v hv;generalize argBest (λ i j=>decide (ns.getD i 0 < ns.getD j 0)) (its.toArray.size - 1)=k at b1 b2 a3;rw [hsz] at b1 b2;have hk:k < ns.length:=by omega
    refine⟨.int (ns.getD k 0),H,I.kept (t':=tk) kp,a3,q _ ?_ λ a ha=>?_⟩
    ·rw [List.getD,Rb hk];exact SQ hk
    ·obtain⟨j,hj,rfl⟩:=Ti ha;have:=b2 j (by omega);rw [show ns.getD j 0=ns[j] by rw [List.getD,Rb hj];rfl] at this;exact this
 ·exact h.elim
def gO(hc:X.calm=true):cu X (.builtin "max") FU:=by
 intro pins s σ H vs us Q I r h;unfold FU at h;split at h
 ·rename_i p;obtain⟨xs,e,ns,rfl,hn,q⟩:=ai h
  cases r with
  | cons r rr=>
   cases rr;cases r;obtain⟨its,rv,pl,hz⟩:=I.list (SqL.of (bj e));have aS:p < s.heap.objs.size:=by obtain⟨_,e,_⟩:=pl.isList;exact Rk e
   have hlen:its.length=ns.length:=by have:=rv.length;simpa using this.symm
   have hsz:its.toArray.size=ns.length:=by simp [hlen]
   have hP:∀ (i:Nat) (v:Value),its.toArray[i]? = some v->∃ t,v=.int (ns.getD i 0) t:=λ i v hP=>by
    have hv:its[i]? = some v:=by simpa using hP
    have hi:i < ns.length:=by rw [←hlen];exact(Rf.mp hv).1
    obtain⟨u,hu,ru⟩:=rv.get (i:=i) (x:=.int (ns.getD i 0)) (by rw [Rq,Rb hi];simp [List.getD,Rb hi]);rw [hv] at hu;cases hu;exact ru
   refine call_max_walkS (S0 pl.isList ⟨s.heap.objs.size,_,_,_,_,_,_,λ i j=>decide (ns.getD i 0 > ns.getD j 0),rfl,(Vp (show X.A.in1.handled=none from I.ok.hd hc) _ p (RC aS) its.toArray).toS,⟨⟨_,Rn _ rfl,rfl,rfl⟩,pl.isList.push _⟩,λ b hb=>?_,by rw [hsz];exact hn,CmpOf.ints_gt (λ i=>ns.getD i 0) λ i v h=>hP i v h,λ v s' hv hm=>?_⟩)
   ·rw [RT]
    rcases Rz.mp hb with rfl|hb
    ·exact Ss _
    ·rw [Rg.mp hb];exact T7 aS
   ·obtain⟨hp,g,d,tk,os⟩:=s'
    have kp:∀ b o,s.heap.get? b=some o->hp.get? b=some o:=λ b o e=>hm.heap b o (λ aX=>by
     have:b=s.heap.objs.size:=by simpa using aX
     subst this;exact absurd (Rk e) (R9 _)) (Rc _ e)
    have e1:g=s.gens:=hm.gens;have e2:d=s.drawn:=hm.drawn;have e3:os=s.os:=hm.os;subst e1 e2 e3;obtain⟨b1,b2⟩:=argBest_gt (λ i=>ns.getD i 0) (its.toArray.size - 1);have a3:=hP _ v hv;generalize argBest (λ i j=>decide (ns.getD i 0 > ns.getD j 0)) (its.toArray.size - 1)=k at b1 b2 a3;rw [hsz] at b1 b2;have hk:k < ns.length:=by omega
    refine⟨.int (ns.getD k 0),H,I.kept (t':=tk) kp,a3,q _ ?_ λ a ha=>?_⟩
    ·rw [List.getD,Rb hk];exact SQ hk
    ·obtain⟨j,hj,rfl⟩:=Ti ha;have:=b2 j (by omega);rw [show ns.getD j 0=ns[j] by rw [List.getD,Rb hj];rfl] at this;exact this
 ·exact h.elim
end
def Gp(l:Addr)(xs:List V)(H:Hp)(Q:VK):List V->Prop:=λ zs=>xs.length+zs.length<=sizeLine/\Q .non (upd H l (.lst (xs++zs)))
def IH(l:Addr)(xs:List V)(H:Hp)(Q:VK)(zs:List V):Gp l xs H Q zs=(xs.length+zs.length<=sizeLine/\Q .non (upd H l (.lst (xs++zs)))):=rfl
def Ky(l b:Addr)(H:Hp)(Q:VK):List V->Prop:=λ xs=>aH (aA H b) (Gp l xs H Q)
def II(l b:Addr)(H:Hp)(Q:VK)(xs:List V):Ky l b H Q xs=aH (aA H b) (Gp l xs H Q):=rfl
def Ah(l b:Addr)(H:Hp)(Q:VK):yr (.ref l) [.ref b] H Q=aH (aA H l) (Ky l b H Q):=by
 refine propext ⟨λ h=>?_,λ h=>?_⟩
 ·obtain⟨l',b',xs,zs,e1,e2,h1,h2,h3,q⟩:=h;cases e1;cases e2;unfold aA;rw [h1]
  show aH (aA H b) _
  unfold aA;rw [h2];exact⟨h3,q⟩
 ·obtain⟨xs,e,h⟩:=ai h;obtain⟨zs,e2,h3,q⟩:=ai h;exact⟨l,b,xs,zs,rfl,rfl,bj e,bj e2,h3,q⟩
section
variable {X:Cx}{a b c d:Expr}{ta tb tc td:TE}{pos:Pos}
end
section
variable {k:Nat}{g:TG}{tt:TT}{te:TE}{σ:St}{Q:VK}{H:Hp}{K:PySem.W.Frag}
def dF{α:Type}{J:It}(zs:List α)(c:α->Bool)(P:α->V->Hp->Prop)(R:Addr->α->V->Hp->Prop)
  (a6:∀ i z H',zs[i]? = some z->Ext H H'->J.go i H'/\∀ x aS,J.yld i H' x aS->Ext H' aS/\P z x aS)
  (a7:∀ H',Ext H H'->J.stop zs.length H')
  (a4:∀ D z y H1 H2,R D z y H1->Ext H1 H2->R D z y H2) (a5:∀ D z y H1 xs o,R D z y H1->H1 D=some (.lst xs)->R D z y (upd H1 D o))
  (hl:zs.length<=sizeLine)
  (hs:∀ D z x H' N1 N0,z∈zs->H D=none->Ext H H'->(∃ ys,H' D=some (.lst ys))->P z x H'->(c z=true->∀ y aS,Ext H' aS->R D z y aS->N1 y aS)->(c z=false->∀ aS,Ext H' aS->N0 aS)->g x (List.replicate k none++σ) H' (kCm k tt te σ N1 N0))
  (hd:∀ D ys H',H D=none->Ext H H'->H' D=some (.lst ys)->Al (λ z y=>R D z y H') (zs.filter c) ys->Q (.ref D) H'):B4 k g tt te σ Q J H:=by
 intro D hD;refine⟨λ i m ys H'=>m=zs.length - i/\i<=zs.length/\Ext H H'/\H' D=some (.lst ys)/\Al (λ z y=>R D z y H') ((zs.take i).filter c) ys,⟨zs.length,by simp,So _,Ext.new hD,aq,by simpa using Al.nil⟩,?_⟩;rintro i m ys H' ⟨rfl,hi,e,aX,al⟩
 by_cases hlt:i < zs.length
 ·have hz:zs[i]? = some zs[i]:=Rb hlt;obtain⟨go,y⟩:=a6 i zs[i] H' hz e;have tk:zs.take (i+1)=zs.take i++[zs[i]]:=by rw [U8,hz];rfl
  have ln:ys.length < sizeLine:=by
   have h1:=al.1;have h2:=Uh c (zs.take i);simp only [R0] at h2;omega
  refine .inr ⟨go,λ a3 H2=>Ext H H2/\H2 D=some (.lst a3)/\Al (λ z y=>R D z y H2) ((zs.take (i+1)).filter c) a3,λ a3 H2 p=>⟨zs.length - (i+1),by omega,rfl,hlt,p⟩,λ x H2 z=>?_⟩;obtain⟨e2,p2⟩:=y x H2 z;refine hs D zs[i] x H2 (kC3 D ys _) _ (SQ hlt) hD (e.trans e2) ⟨ys,e2.at aX⟩ p2 (λ hc y H3 e3 r3=>?_) λ hc H3 e3=>?_
  ·refine⟨e3.at (e2.at aX),ln,(e.trans (e2.trans e3)).put hD,aq,?_⟩;rw [tk,Uy,show [zs[i]].filter c=[zs[i]] by simp [hc]];exact Al.snoc (al.imp λ z y r=>a5 _ _ _ _ _ _ (a4 _ _ _ _ _ r (e2.trans e3)) (e3.at (e2.at aX))) (a5 _ _ _ _ _ _ r3 (e3.at (e2.at aX)))
  ·refine⟨e.trans (e2.trans e3),(e2.trans e3).at aX,?_⟩;rw [tk,Uy,show [zs[i]].filter c=[] by simp [hc],T2];exact al.imp λ z y r=>a4 _ _ _ _ _ r (e2.trans e3)
 ·have e':i=zs.length:=by omega
  subst e';rw [R6] at al;exact .inl ⟨a7 H' e,hd D ys H' hD e aX al⟩
end
def Ite(l:Addr)(xs:List V):It:=
 ⟨λ i H=>H l=some (.lst xs)/\i < xs.length,λ i H x H'=>∃ p u,H p=none/\x=.ref p/\xs[i]? = some u/\H'=upd H p (.tup [.int (i:Int),u]),λ i H=>H l=some (.lst xs)/\i=xs.length⟩
def Tne(l e it:Addr)(i:Nat)(h:Heap):Prop:=(∃ old,IsEnum h e it (i:Int) old)/\h.IsListIter it l i
def zH{P:Program}{w:World}{K:PySem.W.Frag}{elts:List Expr}{x1}{tp:Pos}(l e it:Addr)(xs:List V)(ne:e ≠ it):BS P w K (.Tuple elts x1 tp) (Ite l xs) [e,it] e (Tne l e it) where
 mem:=Rr
 obj:=λ i h st c hc=>by
  obtain⟨⟨old,e1⟩,e2⟩:=st;simp only [Rz,Rv,RV] at hc
  rcases hc with rfl|rfl
  ·exact⟨_,e1,λ v z=>by cases z⟩
  ·obtain⟨o,e,_,d⟩:=e2;exact⟨o,e,λ v z=>by rw [d] at z;cases z⟩
 keep:=λ i h h' st k=>by
  obtain⟨⟨old,e1⟩,e2⟩:=st;exact⟨⟨old,k e (by simp) _ e1⟩,e2.at λ o q=>k it (by simp) o q⟩
 item:=by
  intro X hP hw hK hc i pins s σ H E I hf st hg;subst hP hw hK;obtain⟨ha,l1⟩:=hg;obtain⟨as,ra,pl,_⟩:=I.list (SqL.of ha);have hx:xs[i]? = some xs[i]:=Rb l1;obtain⟨u,hu,ru⟩:=ra.get hx;have free:∀ c∈[e,it],H c=none:=λ c h=>(hf c h).1;have aX:l ≠ e:=λ z=>by have:=free e (by simp);rw [←z,ha] at this;cases this
  have a3:l ≠ it:=λ z=>by have:=free it (by simp);rw [←z,ha] at this;cases this
  have W:=WalksT.enumerate (prog:=X.prog) (w:=X.w) (I.ok.hd hc) e it l ne aX a3 as.toArray;have la:=ra.length;obtain⟨e1,e2⟩:=st;obtain⟨old,a5⟩:=e1;refine W.item i s _ E (by simp;omega) ⟨⟨old,a5⟩,e2,pl.isList⟩ λ T vals h1 tk hp hle hT aS kp=>⟨_,rfl,?_⟩;refine W.go elts x1 tp i T ⟨h1,s.gens,s.drawn,tk,s.os⟩ _ E aS λ h2 a6 a7=>?_;have nT:=W.apart i T h1 aS;obtain⟨a4,x,a8,rfl⟩:=hp
  have a9:x=u:=by
   have:as[i]? = some x:=by simpa using a8
   rw [hu] at this;exact(RE this).symm
  subst a9;have bb:h2.IsTuple T #[.int (i:Int) a4,x]:=hT.at λ o q=>a7 T o nT q;have I2:Inv X pins σ (upd H T (.tup [.int (i:Int),xs[i]])) { s with heap:=h2,toks:=tk }:=I.turnNew (t':=tk) (ch:=[e,it]) (λ c hc=>hf c hc) (λ c o hc q=>a7 c o hc (kp c o hc q)) hle ⟨(show 2<=sizeLine by decide),[.int (i:Int) a4,x],.cons ⟨a4,rfl⟩ (.cons ru .nil),bb⟩;have fr:H T=none:=I.hok.fresh hle;refine⟨.ref T,_,I2,rfl,⟨_,_,fr,rfl,hx,rfl⟩,⟨a6.1,a6.2.1⟩,λ c hc=>?_⟩
  have bt:c < s.heap.objs.size:=by
   simp only [Rz,Rv,RV] at hc
   rcases hc with rfl|rfl
   ·exact Rk a5
   ·obtain⟨o,q,_⟩:=e2;exact Rk q
  rw [ah (RC (RD bt hle))];exact free c hc
 done:=by
  intro X hP hw hK hc i pins s σ H E I hf st hg;subst hP hw hK;obtain⟨ha,rfl⟩:=hg;obtain⟨as,ra,pl,_⟩:=I.list (SqL.of ha);have free:∀ c∈[e,it],H c=none:=λ c h=>(hf c h).1;have aX:l ≠ e:=λ z=>by have:=free e (by simp);rw [←z,ha] at this;cases this
  have a3:l ≠ it:=λ z=>by have:=free it (by simp);rw [←z,ha] at this;cases this
  have W:=WalksT.enumerate (prog:=X.prog) (w:=X.w) (I.ok.hd hc) e it l ne aX a3 as.toArray;have la:=ra.length;have hsz:as.toArray.size=xs.length:=by simp [la]
  obtain⟨e1,e2⟩:=st;refine W.done s _ E (by rw [hsz];exact⟨e1,e2,pl.isList⟩) λ h' tk kp=>⟨rfl,I.turnL (t':=tk) (ch:=[e,it]) (λ c hc=>hf c hc) kp⟩
 self:=λ A i s Q E st h=>by
  obtain⟨⟨old,e1⟩,e2⟩:=st;exact wpAny_pyIter_enum e1 h
def Of(l:Addr)(H:Hp)(R:It->Hp->Prop):List V->Prop:=λ xs=>R (Ite l xs) H
def Mx(l:Addr)(H:Hp)(R:It->Hp->Prop)(xs:List V):Of l H R xs=R (Ite l xs) H:=rfl
def Nw(R:It->Hp->Prop):List V->Hp->Prop:=λ vs H=>match vs with
 | [.ref l]=>aH (aA H l) (Of l H R)
 | _=>False
def Mz(R:It->Hp->Prop)(l:Addr)(H:Hp):Nw R [.ref l] H=aH (aA H l) (Of l H R):=rfl
def KG(ta:TA):TI:=λ σ H R=>ta σ H (Nw R)
def IV(ta:TA)(σ:St)(H:Hp)(R:It->Hp->Prop):KG ta σ H R=ta σ H (Nw R):=rfl
section
variable {X:Cx}
def Hj{a:Expr}{elts:List Expr}{x1}{tp:Pos}{ta:TA}{p pos:Pos}(hg:Gl X "enumerate")(hm:X.mg "enumerate"=none)(ha:PA X [a] ta)(he:starEach [a] X.env=[(false,eval a X.env)]:=by rfl) :
  PI X (.Tuple elts x1 tp) (.Call (.Name "enumerate" p) [a] [] pos) (KG ta):=by
 intro pins s σ H R I h;refine Call_ (eN I hg hm (show bootBuiltins "enumerate"=some (.type "enumerate") by decide +kernel) (PyProof.Rows.callWith_type1 (thn (ha pos pins s σ H _ I h) λ us s1 ⟨vs,H1,I1,r1,q1⟩=>?_) (by rw [he];rfl) (by rfl)));unfold Nw at q1;split at q1
 ·rename_i l;obtain⟨xs,e,q⟩:=ai q1;replace e:=bj e
  cases r1 with
  | cons r rr=>
   cases rr;cases r;obtain⟨as,ra,pl,_⟩:=I1.list (SqL.of e);refine call_enumerate_list pl.isList λ h' e1 e2 e3 e4=>?_;have I2:Inv X pins σ H1 { s1 with heap:=h' }:=I1.kept (t':=s1.toks) e4;refine wpAny_pyIter_enum (s:={ s1 with heap:=h' }) e1 ⟨s1.heap.objs.size+1,[s1.heap.objs.size+1,s1.heap.objs.size],_,_,H1,rfl,I2,zH l (s1.heap.objs.size+1) s1.heap.objs.size xs (by simp),⟨⟨_,e1⟩,e2⟩,λ c hc=>?_,q⟩
   have hle:s1.heap.objs.size<=c:=by
    simp only [Rz,Rv,RV] at hc
    rcases hc with rfl|rfl
    ·exact Sg ..
    ·exact Rl _
   exact I1.fpOk hle (I1.hok.fresh hle)
 ·exact q1.elim
end
section
variable {g:TG}{σ:St}{Q:VK}{H:Hp}{K:PySem.W.Frag}
def Ez{tb:TS}{nx:St->Hp->Prop}{rt:VK}{bk ct:St->Hp->Prop}{l:Addr}{xs:List V}(Pv:Nat->St->Hp->Prop)(h0:Pv 0 σ H)(hl:∀ i σ H,Pv i σ H->H l=some (.lst xs))
  (hs:∀ i u p σ H H',xs[i]? = some u->Pv i σ H->H p=none->Ext H H'->H' p=some (.tup [.int (i:Int),u])->g (.ref p) σ H' (rW tb ⟨Pv (i+1),rt,nx,Pv (i+1)⟩)) (hd:∀ σ H,Pv xs.length σ H->nx σ H):FA g tb ⟨nx,rt,bk,ct⟩ σ (Ite l xs) H:=by
 refine⟨λ i m σ H=>m=xs.length - i/\i<=xs.length/\Pv i σ H,⟨xs.length,by simp,So _,h0⟩,?_⟩;rintro i m σ H ⟨rfl,hi,p⟩;have qa:=hl i σ H p
 by_cases hlt:i < xs.length
 ·refine .inr ⟨⟨qa,hlt⟩,Pv (i+1),λ σ' H' p'=>⟨xs.length - (i+1),by omega,rfl,hlt,p'⟩,λ x H' y=>?_⟩;obtain⟨r,u,hr,rfl,hu,rfl⟩:=y;exact hs i u r σ H _ hu p hr (Ext.new hr) aq
 ·have e:i=xs.length:=by omega
  subst e;exact .inl ⟨⟨qa,rfl⟩,hd σ H p⟩
end
section
variable {X:Cx}{CX:CXT}{k:Nat}{f C:Addr}{fd:FuncData}{ps:List Str}{sp:Sp}{dvs:List V}{ds:List Value}{E:St->XK}{x m:Str}{p pos apos:Pos}{e o:Expr}{es:List Expr}{ta:TE}{t:TA}
end
section
variable {X:Cx}{e st:Expr}{te tst:TE}{pos p2:Pos}
end
def xh(n:Int):List V:=(List.range n.toNat).map λ (i:Nat)=>V.int (i:Int)
def kLR(Q:VK):List V->Hp->Prop:=λ vs H=>match vs with
 | [.int n]=>0<=n/\n<=4096/\iW (.lst (xh n)) H Q
 | _=>False
def Oz(Q:VK)(n:Int)(H:Hp):kLR Q [.int n] H=(0<=n/\n<=4096/\iW (.lst (xh n)) H Q):=rfl
def tLR(ta:TA):TE:=λ σ H Q=>ta σ H (kLR Q)
def OW(ta:TA)(σ:St)(H:Hp)(Q:VK):tLR ta σ H Q=ta σ H (kLR Q):=rfl
def sZ{n:Int}(h0:n<=4096)(h1:-5000<=n):Builtin.Range.small 0 n 1=true/\Builtin.Range.rangeSize 0 n 1=((n.toNat:Nat):Int):=by
 have e:Builtin.Range.rangeSize 0 n 1=((n.toNat:Nat):Int):=by
  unfold Builtin.Range.rangeSize;rw [if_pos (by decide)];split
  ·rw [Int.ediv_one];omega
  ·omega
 refine⟨?_,e⟩;unfold Builtin.Range.small;rw [e,if_pos (by decide)];unfold Builtin.Range.rangeFitsLong;simp;omega
def lu:∀ {xs:List V}{us:List Value},us.length=xs.length->(∀ (i:Nat) (x:V) (u:Value),xs[i]? = some x->us[i]? = some u->bD x u)->aU xs us
 | [],[],_,_=>.nil
 | [],_::_,h,_=>by cases h
 | _::_,[],h,_=>by cases h
 | x::xs,u::us,h,k=>.cons (k 0 x u rfl rfl) (lu (by simpa using h) λ i y w a b=>k (i+1) y w (by simpa using a) (by simpa using b))
section
variable {X:Cx}
def rf{a:Expr}{ta:TA}{p p2 pos aS:Pos}(hc:X.calm=true)(hg:Gl X "list")(hm:X.mg "list"=none)(a5:Gl X "range")(a6:X.mg "range"=none)(ha:PA X [a] ta)(hs:starEach [a] X.env=[(false,eval a X.env)]:=by rfl)(aX:starEach [Expr.Call (.Name "range" p2) [a] [] aS] X.env=[(false,eval (Expr.Call (.Name "range" p2) [a] [] aS) X.env)]:=by rfl)(a3:starEach ([]:List Expr) X.env=[]:=by rfl) :
  PE X (.Call (.Name "list" p) [.Call (.Name "range" p2) [a] [] aS] [] pos) (tLR ta):=by
 intro pins s σ H Q I h;refine S6 (eN I hg hm (show bootBuiltins "list"=some (.type "list") by decide +kernel) ?_);refine RY ?_ (by rw [aX,a3]) (by rw [a3];rfl);rw [aX]
 show wpAny _ _ (spliced ((false,eval _ X.env)::[])) _ _ s
 refine Calls.spliced_cons ?_;refine Call_ (eN I a5 a6 boot_range (PyProof.Rows.callWith_type1 (thn (ha aS pins s σ H _ I h) λ us s1 ⟨vs,H1,I1,r1,q1⟩=>?_) hs rfl));unfold kLR at q1;split at q1
 ·rename_i n;obtain⟨a9,hn,q⟩:=q1
  cases r1 with
  | cons r rr=>
   cases rr;obtain⟨t,rfl⟩:=r;refine call_range_1 ?_;refine Uo ?_;obtain⟨k1,k2⟩:=sZ hn (by omega);have I2:Inv X pins σ H1 { s1 with heap:=s1.heap.push { cls:=.type "range",data:=.fields #[.int 0 s1.toks,.int n t,.int 1 (s1.toks+1)] },toks:=s1.toks+1+1 }:=I1.kept (t':=s1.toks+1+1) λ b ob e=>Rc _ e;refine call_list_range (s:={ s1 with heap:=s1.heap.push { cls:=.type "range",data:=.fields #[.int 0 s1.toks,.int n t,.int 1 (s1.toks+1)] },toks:=s1.toks+1+1 }) (n:=n.toNat) (I1.ok.hd hc) (Rn _ rfl) k1 k2 (by omega) λ h' tk acc c kp a4 hit=>?_;have fr:=I2.hok.fresh (Rl _)
   have hv:aU (xh n) acc.toList:=by
    refine lu (by unfold xh;rw [length_map,length_range,Array.length_toList,hit.1]) λ i x u hx hu=>?_;unfold xh at hx;rw [getElem?_map] at hx;obtain⟨j,hj,rfl⟩:=Option.map_eq_some_iff.mp hx;obtain⟨bb,a7⟩:=List.getElem?_eq_some_iff.mp hj;have ej:i=j:=by simpa using a7
    subst ej;obtain⟨a8,e⟩:=hit.2 i u (by simpa using hu);exact⟨a8,by rw [e];congr 1;omega⟩
   refine⟨.ref (s1.heap.push { cls:=.type "range",data:=.fields #[.int 0 s1.toks,.int n t,.int 1 (s1.toks+1)] }).objs.size,_,I2.laid (t':=tk) (o:=.lst (xh n)) kp (Rl _) ⟨?_,acc.toList,c,hv,?_⟩,rfl,q _ _ fr (Ext.new fr) aq⟩
   ·unfold xh;rw [length_map,length_range];exact ak (by omega)
   ·exact a4
 ·exact q1.elim
end
def fN{n:Nat}(h:n+64 < cLine):n+1 < cLine:=by omega
def Oi(Q:VK)(x:V):VK:=λ y H=>∃ a v,x=.ref a/\pD H a y (some v)/\Q v H
def Qn(ty:TE)(σ:St)(Q:VK):VK:=λ x H=>ty σ H (Oi Q x)
def MC(ty:TE)(σ:St)(Q:VK)(x:V)(H:Hp):Qn ty σ Q x H=ty σ H (Oi Q x):=rfl
def HM(td ty:TE)(σ:St)(H:Hp)(Q:VK):Ka td ty σ H Q=td σ H (Qn ty σ Q):=rfl
def E6{H:Hp}{a:Addr}{kvs:List (Key × V)}{k:Key}{v:V}{Q:VK}(e:H a=some (.dK kvs))(h:eK kvs k=some v)(q:Q v H):Oi Q (.ref a) (kV k) H:=⟨a,v,rfl,h ▸ pD.k e,q⟩
def P1(neg:Bool):R2:=λ y x H Q=>∃ a o,x=.ref a/\pD H a y o/\Q (.bl (if neg=true then !o.isSome else o.isSome)) H
def E5{neg:Bool}{H:Hp}{a:Addr}{kvs:List (Key × V)}{k:Key}{Q:VK}(e:H a=some (.dK kvs))(q:Q (.bl (if neg=true then !(eK kvs k).isSome else (eK kvs k).isSome)) H):P1 neg (kV k) (.ref a) H Q:=⟨a,_,rfl,pD.k e,q⟩
section
variable {X:Cx}
def Fi(hu:X.A.units+1 < cLine):OpR X (compareOp .In) (P1 false):=by
 intro pins s σ H x y v u Q I rx ry h;obtain⟨a,o,rfl,g,q⟩:=h;obtain rfl:u=Value.ref a:=ry;exact Q3 hu I g rx λ s3 I3=>⟨.bl o.isSome,H,I3,rfl,q⟩
end
def Og(nx:St->Hp->Prop)(σ:St)(v x:V):VK:=λ y H=>∃ a H4,x=.ref a/\JT H a y v H4/\nx σ H4
def Oh(ty:TE)(nx:St->Hp->Prop)(σ:St)(v:V):VK:=λ x H=>ty σ H (Og nx σ v x)
def MA(ty:TE)(nx:St->Hp->Prop)(σ:St)(v x:V)(H:Hp):Oh ty nx σ v x H=ty σ H (Og nx σ v x):=rfl
def Qm(td ty:TE)(nx:St->Hp->Prop)(σ:St):VK:=λ v H=>td σ H (Oh ty nx σ v)
def MB(td ty:TE)(nx:St->Hp->Prop)(σ:St)(v:V)(H:Hp):Qm td ty nx σ v H=td σ H (Oh ty nx σ v):=rfl
def HS(td ty tv:TE)(nx:St->Hp->Prop)(rt:VK)(bk ct:St->Hp->Prop)(σ:St)(H:Hp):Kf td ty tv ⟨nx,rt,bk,ct⟩ σ H=tv σ H (Qm td ty nx σ):=rfl
def pL{H:Hp}{a:Addr}{kvs:List (Key × V)}{k:Key}{v:V}{nx:St->Hp->Prop}{σ:St}(e:H a=some (.dK kvs))(hl:kvs.length < sizeLine)(q:nx σ (upd H a (.dK (l0 kvs k v)))):Og nx σ v (.ref a) (kV k) H:=⟨a,_,rfl,JT.k e hl,q⟩
section
variable {X:Cx}
end
def tV(i:Nat):TE:=λ σ H Q=>match σ[i]? with
 | some (some v)=>Q v H
 | _=>False
def J4(i:Nat):Nf i=tV i:=by
 funext σ H Q;refine propext ⟨λ ⟨v,e,q⟩=>?_,λ h=>?_⟩
 ·unfold tV;rw [e];exact q
 ·unfold tV at h;split at h
  ·rename_i v e;exact⟨v,e,h⟩
  ·exact h.elim
def LF{v:V}{σ:St}{H:Hp}{Q:VK}:tV 0 (some v::σ) H Q=Q v H:=rfl
def LD{a0:Option V}{v:V}{σ:St}{H:Hp}{Q:VK}:tV 1 (a0::some v::σ) H Q=Q v H:=rfl
def LC{a0 a1:Option V}{v:V}{σ:St}{H:Hp}{Q:VK}:tV 2 (a0::a1::some v::σ) H Q=Q v H:=rfl
def LB{a0 a1 a2:Option V}{v:V}{σ:St}{H:Hp}{Q:VK}:tV 3 (a0::a1::a2::some v::σ) H Q=Q v H:=rfl
def LA{a0 a1 a2 a3:Option V}{v:V}{σ:St}{H:Hp}{Q:VK}:tV 4 (a0::a1::a2::a3::some v::σ) H Q=Q v H:=rfl
def Lz{a0 a1 a2 a3 a4:Option V}{v:V}{σ:St}{H:Hp}{Q:VK}:tV 5 (a0::a1::a2::a3::a4::some v::σ) H Q=Q v H:=rfl
def Ly{a0 a1 a2 a3 a4 a5:Option V}{v:V}{σ:St}{H:Hp}{Q:VK}:tV 6 (a0::a1::a2::a3::a4::a5::some v::σ) H Q=Q v H:=rfl
def Lx{a0 a1 a2 a3 a4 a5 a6:Option V}{v:V}{σ:St}{H:Hp}{Q:VK}:tV 7 (a0::a1::a2::a3::a4::a5::a6::some v::σ) H Q=Q v H:=rfl
def Lw{a0 a1 a2 a3 a4 a5 a6 a7:Option V}{v:V}{σ:St}{H:Hp}{Q:VK}:tV 8 (a0::a1::a2::a3::a4::a5::a6::a7::some v::σ) H Q=Q v H:=rfl
def Lv{a0 a1 a2 a3 a4 a5 a6 a7 a8:Option V}{v:V}{σ:St}{H:Hp}{Q:VK}:tV 9 (a0::a1::a2::a3::a4::a5::a6::a7::a8::some v::σ) H Q=Q v H:=rfl
def HH{a0 a1 a2 a3 a4 a5 a6 a7 a8 a9:Option V}{v:V}{σ:St}{H:Hp}{Q:VK}:tV 10 (a0::a1::a2::a3::a4::a5::a6::a7::a8::a9::some v::σ) H Q=Q v H:=rfl
def HG{a0 a1 a2 a3 a4 a5 a6 a7 a8 a9 aS:Option V}{v:V}{σ:St}{H:Hp}{Q:VK}:tV 11 (a0::a1::a2::a3::a4::a5::a6::a7::a8::a9::aS::some v::σ) H Q=Q v H:=rfl
def HF{a0 a1 a2 a3 a4 a5 a6 a7 a8 a9 aS aX:Option V}{v:V}{σ:St}{H:Hp}{Q:VK}:tV 12 (a0::a1::a2::a3::a4::a5::a6::a7::a8::a9::aS::aX::some v::σ) H Q=Q v H:=rfl
def HE{a0 a1 a2 a3 a4 a5 a6 a7 a8 a9 aS aX bb:Option V}{v:V}{σ:St}{H:Hp}{Q:VK}:tV 13 (a0::a1::a2::a3::a4::a5::a6::a7::a8::a9::aS::aX::bb::some v::σ) H Q=Q v H:=rfl
def HD{a0 a1 a2 a3 a4 a5 a6 a7 a8 a9 aS aX bb bt:Option V}{v:V}{σ:St}{H:Hp}{Q:VK}:tV 14 (a0::a1::a2::a3::a4::a5::a6::a7::a8::a9::aS::aX::bb::bt::some v::σ) H Q=Q v H:=rfl
def nI0(g:Int->Int->V):R2:=λ x y H Q=>match x,y with
 | .int i,.int j=>Q (g i j) H
 | _,_=>False
def O4(g:Int->Int->V)(i j:Int)(H:Hp)(Q:VK):nI0 g (.int i) (.int j) H Q=Q (g i j) H:=rfl
def mB(g:Int->Int->V):rI0 g=nI0 g:=by
 funext x y H Q;refine propext ⟨λ ⟨i,j,e,e',q⟩=>by subst e e';exact q,λ h=>?_⟩;unfold nI0 at h;split at h
 ·exact⟨_,_,rfl,rfl,h⟩
 ·exact h.elim
def nI(C:Int->Int->Prop)(g:Int->Int->V):R2:=λ x y H Q=>match x,y with
 | .int i,.int j=>C i j/\Q (g i j) H
 | _,_=>False
def QV(C:Int->Int->Prop)(g:Int->Int->V)(i j:Int)(H:Hp)(Q:VK):nI C g (.int i) (.int j) H Q=(C i j/\Q (g i j) H):=rfl
def BY(C:Int->Int->Prop)(g:Int->Int->V):rI C g=nI C g:=by
 funext x y H Q;refine propext ⟨λ ⟨i,j,e,e',q⟩=>by subst e e';exact q,λ h=>?_⟩;unfold nI at h;split at h
 ·exact⟨_,_,rfl,rfl,h⟩
 ·exact h.elim
def nU(g:Int->V):V->Hp->VK->Prop:=λ x H Q=>match x with
 | .int i=>Q (g i) H
 | _=>False
def QU(g:Int->V)(i:Int)(H:Hp)(Q:VK):nU g (.int i) H Q=Q (g i) H:=rfl
def OO(g:Int->V):rU g=nU g:=by
 funext x H Q;refine propext ⟨λ ⟨i,e,q⟩=>by subst e;exact q,λ h=>?_⟩;unfold nU at h;split at h
 ·exact⟨_,rfl,h⟩
 ·exact h.elim
def mE(Q:Bool->Hp->Prop):VK:=λ x H=>match x with
 | .bl k=>Q k H
 | _=>False
def Dv(Q:Bool->Hp->Prop)(k:Bool)(H:Hp):mE Q (.bl k) H=Q k H:=rfl
def Ee(Q:Bool->Hp->Prop):Kv Q=mE Q:=by
 funext x H;refine propext ⟨λ ⟨k,e,q⟩=>by subst e;exact q,λ h=>?_⟩;unfold mE at h;split at h
 ·exact⟨_,rfl,h⟩
 ·exact h.elim
def rV(t:TE):TT:=λ σ H Q=>t σ H (mE Q)
def Ib(t:TE)(σ:St)(H:Hp)(Q:Bool->Hp->Prop):rV t σ H Q=t σ H (mE Q):=rfl
def jT(t:TE):BW t=rV t:=by
 funext σ H Q
 show t σ H (Kv Q)=t σ H (mE Q)
 rw [Ee]
def Ad(t:TE):tB t=rV t:=jT t
def xt(tb:TE)(σ:St)(Q:VK):VK:=λ x H=>match x with
 | .bl c=>if c=true then tb σ H Q else Q (.bl false) H
 | _=>False
def IQ(tb:TE)(σ:St)(Q:VK)(c:Bool)(H:Hp):xt tb σ Q (.bl c) H=(if c=true then tb σ H Q else Q (.bl false) H):=rfl
def Gf(ta tb:TE):TE:=λ σ H Q=>ta σ H (xt tb σ Q)
def Il(ta tb:TE)(σ:St)(H:Hp)(Q:VK):Gf ta tb σ H Q=ta σ H (xt tb σ Q):=rfl
def Dj(ta tb:TE):Kc ta tb=Gf ta tb:=by
 funext σ H Q
 show ta σ H (Pr tb σ Q)=ta σ H (xt tb σ Q)
 congr 1;funext x H;refine propext ⟨λ ⟨k,e,q⟩=>by subst e;exact q,λ h=>?_⟩;unfold xt at h;split at h
 ·exact⟨_,rfl,h⟩
 ·exact h.elim
def JY(tb:TE)(σ:St)(Q:VK):VK:=λ x H=>match x with
 | .bl c=>if c=true then Q (.bl true) H else tb σ H Q
 | _=>False
def Mi(tb:TE)(σ:St)(Q:VK)(c:Bool)(H:Hp):JY tb σ Q (.bl c) H=(if c=true then Q (.bl true) H else tb σ H Q):=rfl
def NR(ta tb:TE):TE:=λ σ H Q=>ta σ H (JY tb σ Q)
def L1(ta tb:TE)(σ:St)(H:Hp)(Q:VK):NR ta tb σ H Q=ta σ H (JY tb σ Q):=rfl
def HC(ta tb:TE):PN ta tb=NR ta tb:=by
 funext σ H Q
 show ta σ H (Q1 tb σ Q)=ta σ H (JY tb σ Q)
 congr 1;funext x H;refine propext ⟨λ ⟨k,e,q⟩=>by subst e;exact q,λ h=>?_⟩;unfold JY at h;split at h
 ·exact⟨_,rfl,h⟩
 ·exact h.elim
def xp(Q:VK):VK:=λ x H=>match x with
 | .bl c=>Q (.bl (!c)) H
 | _=>False
def IB(Q:VK)(c:Bool)(H:Hp):xp Q (.bl c) H=Q (.bl (!c)) H:=rfl
def Ga(ta:TE):TE:=λ σ H Q=>ta σ H (xp Q)
def Ie(ta:TE)(σ:St)(H:Hp)(Q:VK):Ga ta σ H Q=ta σ H (xp Q):=rfl
def Di(ta:TE):J7 ta=Ga ta:=by
 funext σ H Q
 show ta σ H (Pn Q)=ta σ H (xp Q)
 congr 1;funext x H;refine propext ⟨λ ⟨k,e,q⟩=>by subst e;exact q,λ h=>?_⟩;unfold xp at h;split at h
 ·exact⟨_,rfl,h⟩
 ·exact h.elim
def vK(r':R2)(tc:TE)(σ:St)(y:V)(Q:VK):VK:=λ z H=>match z with
 | .bl k=>if k=true then tc σ H (Ny r' y Q) else Q (.bl false) H
 | _=>False
def IL(r':R2)(tc:TE)(σ:St)(y:V)(Q:VK)(k:Bool)(H:Hp):vK r' tc σ y Q (.bl k) H=(if k=true then tc σ H (Ny r' y Q) else Q (.bl false) H):=rfl
def Jj(r':R2)(tc:TE)(σ:St)(y:V)(Q:VK):Ol r' tc σ y Q=vK r' tc σ y Q:=by
 funext z H;refine propext ⟨λ ⟨k,e,q⟩=>by subst e;exact q,λ h=>?_⟩;unfold vK at h;split at h
 ·exact⟨_,rfl,h⟩
 ·exact h.elim
def B5(r r':R2)(tc:TE)(σ:St)(x:V)(Q:VK):VK:=λ y H=>r x y H (vK r' tc σ y Q)
def IM(r r':R2)(tc:TE)(σ:St)(x y:V)(Q:VK)(H:Hp):B5 r r' tc σ x Q y H=r x y H (vK r' tc σ y Q):=rfl
def B6(r r':R2)(tb tc:TE)(σ:St)(Q:VK):VK:=λ x H=>tb σ H (B5 r r' tc σ x Q)
def IP(r r':R2)(tb tc:TE)(σ:St)(Q:VK)(x:V)(H:Hp):B6 r r' tb tc σ Q x H=tb σ H (B5 r r' tc σ x Q):=rfl
def uw(r r':R2)(ta tb tc:TE):TE:=λ σ H Q=>ta σ H (B6 r r' tb tc σ Q)
def Du(r r':R2)(ta tb tc:TE)(σ:St)(H:Hp)(Q:VK):uw r r' ta tb tc σ H Q=ta σ H (B6 r r' tb tc σ Q):=rfl
def qt(r r':R2)(ta tb tc:TE):xy r r' ta tb tc=uw r r' ta tb tc:=by
 funext σ H Q
 show ta σ H (Q2 r r' tb tc σ Q)=ta σ H (B6 r r' tb tc σ Q)
 congr 1;funext x H1
 show tb σ H1 (Qo r r' tc σ x Q)=tb σ H1 (B5 r r' tc σ x Q)
 congr 1;funext y H2
 show r x y H2 (Ol r' tc σ y Q)=r x y H2 (vK r' tc σ y Q)
 rw [Jj]
def B9:TGs:=λ vs σ H Q=>match vs with
 | []=>Q σ H
 | _=>False
def IW(σ:St)(H:Hp)(Q:St->Hp->Prop):B9 [] σ H Q=Q σ H:=rfl
def Jn:QA=B9:=by
 funext vs σ H Q;refine propext ⟨λ ⟨e,q⟩=>by subst e;exact q,λ h=>?_⟩;unfold B9 at h;split at h
 ·exact⟨rfl,h⟩
 ·exact h.elim
def uz(t:TG)(u:TGs):TGs:=λ vs σ H Q=>match vs with
 | v::r=>t v σ H (kGs u r Q)
 | _=>False
def DE(t:TG)(u:TGs)(v:V)(r:List V)(σ:St)(H:Hp)(Q:St->Hp->Prop):uz t u (v::r) σ H Q=t v σ H (kGs u r Q):=rfl
def Ew(t:TG)(u:TGs):KH t u=uz t u:=by
 funext vs σ H Q;refine propext ⟨λ ⟨v,r,e,q⟩=>by subst e;exact q,λ h=>?_⟩;unfold uz at h;split at h
 ·exact⟨_,_,rfl,h⟩
 ·exact h.elim
def lZ{α0:Type}{f:α0->List V}{B:α0->Prop}(inj:∀ a a',f a=f a'->a=a')(a:α0):(∃ a',f a=f a'/\B a')=B a:=propext ⟨λ ⟨a',e,q⟩=>by obtain rfl:=inj _ _ e;exact q,λ q=>⟨a,rfl,q⟩⟩
def lX{α0:Type}{f:α0->List V}{B:α0->Prop}{vs:List V}{n:Nat}(h:∃ a,vs=f a/\B a)(l:∀ a,(f a).length=n):vs.length=n:=by
 obtain⟨_,rfl,_⟩:=h;exact l _
def iu{α0 α1:Type}{f:α0->α1->List V}{B:α0->α1->Prop}(inj:∀ a b a' b',f a b=f a' b'->a=a'/\b=b')(a:α0)(b:α1):(∃ a' b',f a b=f a' b'/\B a' b')=B a b:=propext ⟨λ ⟨a',b',e,q⟩=>by obtain⟨rfl,rfl⟩:=inj _ _ _ _ e;exact q,λ q=>⟨a,b,rfl,q⟩⟩
def iw{α0 α1:Type}{f:α0->α1->List V}{B:α0->α1->Prop}{vs:List V}{n:Nat}(h:∃ a b,vs=f a b/\B a b)(l:∀ a b,(f a b).length=n):vs.length=n:=by
 obtain⟨_,_,rfl,_⟩:=h;exact l _ _
def xf{α0 α1 α2:Type}{f:α0->α1->α2->List V}{B:α0->α1->α2->Prop}(inj:∀ a b c a' b' c',f a b c=f a' b' c'->a=a'/\b=b'/\c=c')(a:α0)(b:α1)(c:α2):(∃ a' b' c',f a b c=f a' b' c'/\B a' b' c')=B a b c:=propext ⟨λ ⟨a',b',c',e,q⟩=>by obtain⟨rfl,rfl,rfl⟩:=inj _ _ _ _ _ _ e;exact q,λ q=>⟨a,b,c,rfl,q⟩⟩
def xg{α0 α1 α2:Type}{f:α0->α1->α2->List V}{B:α0->α1->α2->Prop}{vs:List V}{n:Nat}(h:∃ a b c,vs=f a b c/\B a b c)(l:∀ a b c,(f a b c).length=n):vs.length=n:=by
 obtain⟨_,_,_,rfl,_⟩:=h;exact l _ _ _
def NF{α0 α1 α2 α3:Type}{f:α0->α1->α2->α3->List V}{B:α0->α1->α2->α3->Prop}(inj:∀ a b c d a' b' c' d',f a b c d=f a' b' c' d'->a=a'/\b=b'/\c=c'/\d=d')(a:α0)(b:α1)(c:α2)(d:α3):(∃ a' b' c' d',f a b c d=f a' b' c' d'/\B a' b' c' d')=B a b c d:=propext ⟨λ ⟨a',b',c',d',e,q⟩=>by obtain⟨rfl,rfl,rfl,rfl⟩:=inj _ _ _ _ _ _ _ _ e;exact q,λ q=>⟨a,b,c,d,rfl,q⟩⟩
def NG{α0 α1 α2 α3:Type}{f:α0->α1->α2->α3->List V}{B:α0->α1->α2->α3->Prop}{vs:List V}{n:Nat}(h:∃ a b c d,vs=f a b c d/\B a b c d)(l:∀ a b c d,(f a b c d).length=n):vs.length=n:=by
 obtain⟨_,_,_,_,rfl,_⟩:=h;exact l _ _ _ _
def QY{P:List Value->Prop}(h:P []):∀ us:List Value,us.length=0->P us:=λ us e=>by
 cases us with
 | nil=>exact h
 | cons a r=>cases e
def lY{P:List Value->Prop}(h:∀ a,P [a]):∀ us:List Value,us.length=1->P us:=λ us e=>by
 cases us with
 | nil=>cases e
 | cons x r=>exact QY (P:=λ r=>P (x::r)) (h x) r (Vw e)
def gT{P:List Value->Prop}(h:∀ a b,P [a,b]):∀ us:List Value,us.length=2->P us:=λ us e=>by
 cases us with
 | nil=>cases e
 | cons x r=>exact lY (P:=λ r=>P (x::r)) (h x) r (Vw e)
def rP{P:List Value->Prop}(h:∀ a b c,P [a,b,c]):∀ us:List Value,us.length=3->P us:=λ us e=>by
 cases us with
 | nil=>cases e
 | cons x r=>exact gT (P:=λ r=>P (x::r)) (h x) r (Vw e)
def NV{P:List Value->Prop}(h:∀ a b c d,P [a,b,c,d]):∀ us:List Value,us.length=4->P us:=λ us e=>by
 cases us with
 | nil=>cases e
 | cons x r=>exact rP (P:=λ r=>P (x::r)) (h x) r (Vw e)
section
variable {X:Cx}
def pvN(i:Nat){x:Str}{pos:Pos}(hN:X.N[i]? = some x:=by rfl)(hv:Vis X.env.scope x:=by first|exact Or.inl rfl|exact Or.inr (Or.inl rfl)|exact Or.inr (Or.inr rfl))(hd:(x == ("__debug__":Str))=false:=by decide)
  (aS:(x == ("__classdict__":Str))=false:=by decide):PE X (.Name x pos) (tV i):=by rw [←J4];exact pv i hN hv hd aS
def cv:OpR X (binaryOp .Add) (nI0 λ i j=>.int (i+j)):=by rw [←mB];exact uv
def eL:OpR X (binaryOp .Sub) (nI0 λ i j=>.int (i - j)):=by rw [←mB];exact Lh
def vG:OpR X (compareOp .Lt) (nI0 λ i j=>.bl (decide (i < j))):=by rw [←mB];exact Kk
def pJ:OpR X (compareOp .LtE) (nI0 λ i j=>.bl (decide (i<=j))):=by rw [←mB];exact OH
def ny:OpR X (compareOp .Gt) (nI0 λ i j=>.bl (decide (j < i))):=by rw [←mB];exact Kl
def Km:OpR X (compareOp .GtE) (nI0 λ i j=>.bl (decide (j<=i))):=by rw [←mB];exact OI
def eM:OpR X (binaryOp .Mult) (nI pI λ i j=>.int (i * j)):=by rw [←BY];exact jy
def yF:OpR X (binaryOp .Mult) (nI Gv λ i j=>.int (i * j)):=by rw [←BY];exact Hw
def sL:OpR X (binaryOp .FloorDiv) (nI Oy λ i j=>.int (i / j)):=by rw [←BY];exact Hx
def Lr:OpR X (binaryOp .Mod) (nI (λ _ j=>0 < j) λ i j=>.int (i % j)):=by rw [←BY];exact kd
def ki:UnR X (unaryOp .USub) (nU λ i=>.int (-i)):=by rw [←OO];exact KR
variable {a b c d e:Expr}{ta tb tc td t:TE}{pos:Pos}
def CJ{op:CmpOp}{r:R2}(ho:OpR X (compareOp op) r)(ha:PE X a ta)(hb:PE X b tb)(hm:behindInMarks op b=false):PT X (.Compare a [op] [b] pos) (rV (tOp r ta tb)):=by rw [←jT];exact sJ ho ha hb hm
def Hb(h:PE X e t)(he:∀ whole,isTrue e X.env whole=(do let v ←whole;standAt e.pos;holding [v] (truthy v)):=by intro _;rfl):PT X e (rV t):=by rw [←Ad];exact K4 h he
def ql{op aS:CmpOp}{r r':R2}(ho:OpR X (compareOp op) r)(aX:OpR X (compareOp aS) r')(ha:PE X a ta)(hb:PE X b tb)(hc:PE X c tc)
  (hm:lastMarks [op,aS] [b,c]=false:=by with_unfolding_all rfl):PE X (.Compare a [op,aS] [b,c] pos) (uw r r' ta tb tc):=by rw [←qt];exact Dd ho aX ha hb hc hm
def zP{op aS:CmpOp}{r r':R2}(ho:OpR X (compareOp op) r)(aX:OpR X (compareOp aS) r')(ha:PE X a ta)(hb:PE X b tb)(hc:PE X c tc)
  (hm:lastMarks [op,aS] [b,c]=false:=by with_unfolding_all rfl):PT X (.Compare a [op,aS] [b,c] pos) (rV (uw r r' ta tb tc)):=by rw [←jT,←qt];exact CK ho aX ha hb hc hm
variable {pE:List Expr}
def Hs(ha:PE X a ta)(hb:PE X (.BoolOp .And (b::pE) pos) tb):PE X (.BoolOp .And (a::b::pE) pos) (Gf ta tb):=by rw [←Dj];exact Le ha hb
def Lb(ha:PE X a ta)(hb:PE X (.BoolOp .Or (b::pE) pos) tb):PE X (.BoolOp .Or (a::b::pE) pos) (NR ta tb):=by rw [←HC];exact OD ha hb
def Ho(ha:PE X a ta):PE X (.UnaryOp .Not a pos) (Ga ta):=by rw [←Di];exact Ld ha
def aK:PGs X [] B9:=by rw [←Jn];exact Hk
def zS{e:Expr}{es:List Expr}{t:TG}{u:TGs}(h1:PG X e t)(h2:PGs X es u)
  (hs:(assignEach (e::es) X.env).map (·.2)=assign e X.env::(assignEach es X.env).map (·.2):=by rfl):PGs X (e::es) (uz t u):=by rw [←Ew];exact CP h1 h2 hs
end
def uy{c:TT}{t u:TS}{nx:St->Hp->Prop}{rt:VK}{bk ct:St->Hp->Prop}{σ:St}{H:Hp}(R:St->Hp->Prop)(h:∀ aS:St->Hp->Prop,(∀ σ' H',R σ' H'->aS σ' H')->Nh c t u ⟨aS,rt,bk,ct⟩ σ H)(k:∀ σ' H',R σ' H'->nx σ' H'):Nh c t u ⟨nx,rt,bk,ct⟩ σ H:=h nx k
def CW{X:Cx}{e:Expr}{f:Str}{pos:Pos}{ta:TE}{K:W.Frag}(hK:X.K=K)(he:PE X e ta)(hb:attributeBase e f X.env (eval e X.env)=eval e X.env):PE X (.Attribute e f pos) (NT K ta f):=by subst hK;exact yA he hb
def OP{i:Nat}:ME (tV i):=by rw [←J4];exact Fm
def Dl{t:TE}(h:ME t):MT (rV t):=by rw [←jT];exact yH h
def N2(k:Int)(H:Hp)(Q:VK):List V->Prop:=λ xs=>0<=k/\k<=4096/\xs.length * k.toNat<=sizeLine/\iW (.lst (List.replicate k.toNat xs).flatten) H Q
def Mf(k:Int)(H:Hp)(Q:VK)(xs:List V):N2 k H Q xs=(0<=k/\k<=4096/\xs.length * k.toNat<=sizeLine/\iW (.lst (List.replicate k.toNat xs).flatten) H Q):=rfl
def NQ:R2:=λ x y H Q=>match x,y with
 | .ref l,.int k=>aH (aA H l) (N2 k H Q)
 | _,_=>False
def L0(l:Addr)(k:Int)(H:Hp)(Q:VK):NQ (.ref l) (.int k) H Q=aH (aA H l) (N2 k H Q):=rfl
def yE{X:Cx}:OpR X (binaryOp .Mult) NQ:=Li.mono λ x y H Q h=>by
 unfold NQ at h;split at h
 ·rename_i l k;obtain⟨xs,e,h0,h1,h2,q⟩:=ai h;exact⟨l,k,xs,rfl,rfl,bj e,by omega,by omega,h2,q.to⟩
 ·exact h.elim
def Oa(neg:Bool)(x:V)(H:Hp)(Q:VK):List V->Prop:=λ xs=>iA x=true/\xs.all iA=true/\Q (.bl (if neg=true then !inV x xs else inV x xs)) H
def Mq(neg:Bool)(x:V)(H:Hp)(Q:VK)(xs:List V):Oa neg x H Q xs=(iA x=true/\xs.all iA=true/\Q (.bl (if neg=true then !inV x xs else inV x xs)) H):=rfl
def nIn(neg:Bool):R2:=λ x y H Q=>match y with
 | .ref p=>aH (cZ H p) (Oa neg x H Q)
 | _=>False
def O3(neg:Bool)(x:V)(p:Addr)(H:Hp)(Q:VK):nIn neg x (.ref p) H Q=aH (cZ H p) (Oa neg x H Q):=rfl
def Fd{K:W.Frag}{neg:Bool}{x y:V}{H:Hp}{Q:VK}(h:nIn neg x y H Q):rIn K neg x y H Q:=by
 unfold nIn at h;split at h
 ·rename_i p;obtain⟨xs,e,h1,h2,q⟩:=ai h;exact⟨p,xs,rfl,iL e,h1,h2,q⟩
 ·exact h.elim
def Ll{X:Cx}:OpR X (compareOp .In) (nIn false):=Aa.mono λ x y H Q h=>Fd h
def zZ{X:Cx}:OpR X (compareOp .NotIn) (nIn true):=rg.mono λ x y H Q h=>Fd h
def Nq(lo hi:Option Int)(H:Hp)(Q:VK):List V->Prop:=λ xs=>¬ (HT.sIx xs.length 0 lo=0/\HT.sIx xs.length xs.length hi=xs.length)/\iW (.tup (mx xs lo hi)) H Q
def NP:V->Option Int->Option Int->Hp->VK->Prop:=λ x lo hi H Q=>match x with
 | .ref a=>aH (jY H a) (Nq lo hi H Q)
 | _=>False
def LZ(a:Addr)(lo hi:Option Int)(H:Hp)(Q:VK):NP (.ref a) lo hi H Q=aH (jY H a) (Nq lo hi H Q):=rfl
def EE(xs:List V)(z:Int)(h:0<=z):mx xs (some z) none=xs.drop z.toNat:=by
 unfold mx;obtain⟨n,rfl⟩:=Int.eq_ofNat_of_zero_le h;rw [HT.sIx_none,HT.sIx_nat]
 show _=xs.drop n
 rcases Vy n xs.length with q|q
 ·rw [UU q];exact SO (by rw [Ui];omega)
 ·rw [UO q,Te (Rl _),Te q,List.take_nil]
def Kd{X:Cx}:SlR X NP:=K0.mono λ x lo hi H Q h=>by
 unfold NP at h;split at h
 ·rename_i a;obtain⟨xs,e,w,q⟩:=ai h;exact⟨a,xs,rfl,SqT.of (um e),w,q.to⟩
 ·exact h.elim
def NJ(ns:List Int):List Int:=firstMet (λ i=>ns.getD i 0) ns.length
def JV(ns:List Int):Nat:=(NJ ns).length
def NI(ns:List Int):Int->Bool:=λ k=>(NJ ns).any λ x=>x == k
def P6:List V->Hp->VK->Prop:=λ vs H Q=>∃ p ns,vs=[.ref p]/\H p=some (.lst (ns.map V.int))/\ns.length<=4000/\iW (.set (NI ns) (JV ns)) H Q
def GF{p:Addr}{ns:List Int}{H:Hp}{Q:VK}(e:H p=some (.lst (ns.map V.int)))(hl:ns.length<=4000)(q:iW (.set (NI ns) (JV ns)) H Q):P6 [.ref p] H Q:=⟨p,ns,rfl,e,hl,q⟩
def Kj:List V->Hp->VK->Prop:=λ vs H Q=>∃ p S n,vs=[.ref p]/\H p=some (.set S n)/\Q (.int n) H
def Cn{p:Addr}{S:Int->Bool}{n:Nat}{H:Hp}{Q:VK}(e:H p=some (.set S n))(q:Q (.int n) H):Kj [.ref p] H Q:=⟨p,S,n,rfl,e,q⟩
section
variable {X:Cx}
def Bu(hc:X.calm=true):cu X (.type "set") P6:=by
 intro pins s σ H vs us Q I r h;obtain⟨p,ns,rfl,e,hl,q⟩:=h
 cases r with
 | cons r rr=>
  cases rr;cases r;obtain⟨its,r',pl,hz⟩:=I.list (SqL.of e);have hlen:=r'.length;rw [length_map] at hlen;have hI:IntsAre its ns:=wL r';refine call_set_list (ns:=ns) (I.ok.hd hc) pl.isList (by simpa using hI) (by rw [size_toArray];unfold scanBound;omega) λ h' tk aS kp=>?_;have es:its.toArray.size=ns.length:=by rw [size_toArray,hlen]
  rw [es] at aS;have fr:=I.hok.fresh (Rl _);exact⟨.ref s.heap.objs.size,_,I.laid (t':=tk) (h':=h') (o:=.set (NI ns) (JV ns)) (λ b u hb=>kp b u (Rk hb) hb) (Rl _) aS,rfl,q _ _ fr (Ext.new fr) aq⟩
def wU:cu X (.builtin "len") Kj:=by
 intro pins s σ H vs us Q I r h;obtain⟨p,S,n,rfl,e,q⟩:=h;obtain⟨u,rfl,rx⟩:=xl r;cases rx;have hn:=mC;obtain⟨o,es,ep,t,h1,h2,h3,h4,h5,h6,h7,h8⟩:=I.hok _ _ e;unfold scanBound at h6;exact call_len_set h1 h2 h3 h7 (by omega) ⟨.int n,H,I.tok _,⟨s.toks+1,by rw [h8]⟩,q⟩
end
def sX(σ:List Int)(v:Int):(step_dedup σ v).length<=σ.length+1:=by rw [step_length];split<;>omega
def yM:∀ (ns σ:List Int),(List.foldl step_dedup σ ns).length<=σ.length+ns.length
 | [],σ=>Rl _
 | v::ns,σ=>by
  have h1:=yM ns (step_dedup σ v);have h2:=sX σ v;simp only [Tj,Sy];omega
def yN:∀ (ns σ:List Int),(List.foldl step_dedup σ ns).length=σ.length+ns.length ↔ ns.Nodup/\∀ x∈ns,x ∉ σ
 | [],σ=>⟨λ _=>⟨TM,λ _ h=>absurd h Rv⟩,λ _=>rfl⟩
 | v::ns,σ=>by
  have ih:=yN ns (step_dedup σ v);have hl:=yM ns (step_dedup σ v);simp only [Tj,Sy,SY,Rz,forall_eq_or_imp]
  by_cases hv:v∈σ
  ·have e:step_dedup σ v=σ:=by unfold step_dedup;rw [if_pos (by rw [any_eq_true];exact⟨v,hv,by simp⟩)]
   rw [e] at hl ⊢;exact⟨λ h=>absurd h (by omega),λ h=>absurd hv h.2.1⟩
  ·have e:step_dedup σ v=σ++[v]:=by
    unfold step_dedup;rw [if_neg];intro h;rw [any_eq_true] at h;obtain⟨x,hx,he⟩:=h;exact hv ((of_decide_eq_true (by simpa using he):x=v) ▸ hx)
   rw [e] at ih ⊢;rw [RI,Ug] at ih;constructor
   ·intro h;obtain⟨a,b⟩:=ih.mp (by omega);exact⟨⟨λ hm=>b v hm (RG _ (Rg.mpr rfl)),a⟩,hv,λ x hx hs=>b x hx (RB _ hs)⟩
   ·rintro ⟨⟨a,b⟩,_,c⟩
    have:=ih.mpr ⟨b,λ x hx hs=>by
     rcases RQ.mp hs with h|h
     ·exact c x hx h
     ·exact a (Rg.mp h ▸ hx)⟩
    omega
def wN(ns:List Int):(List.range ns.length).map (λ i=>ns.getD i 0)=ns:=by
 refine UG (by rw [Rh,RL]) λ i h1 h2=>?_;rw [List.getElem_map,Vn,RU,Rb h2];rfl
def G9(ns:List Int):JV ns=ns.length ↔ ns.Nodup:=by
 unfold JV NJ firstMet;rw [wN];have:=yN ns [];simp only [length_nil,Nat.zero_add] at this;rw [this];exact⟨λ h=>h.1,λ h=>⟨h,λ _ _=>not_mem_nil⟩⟩
section
variable {prog:Program}{w:World}{A:Around}{E:Value->Shared->Prop}{s:Shared}
end
section
variable {X:Cx}
end
section
variable {k:Nat}{g:TG}{tt:TT}{te:TE}{σ:St}{Q:VK}{H:Hp}
end
structure IsC(K:W.Frag)(C:Addr):Prop where
 cl:Cls K C
 fc:W.findIn K (.ref C) "__class__"=some (some (.builtin "object.__class__"))
 ocs:W.specialIn K (.builtin "object.__class__") "__get__"=some (some (.builtin "getset_descriptor.__get__"))
 oct:W.takesIn K (.builtin "object.__class__")=some true
 mo:W.mroIn K C (.type "object")=some true
def NS(neg:Bool):R2:=λ x y H Q=>match x,y with
 | .bl b,.bl c=>Q (.bl (if neg=true then !(b == c) else b == c)) H
 | _,_=>False
def L3(neg b c:Bool)(H:Hp)(Q:VK):NS neg (.bl b) (.bl c) H Q=Q (.bl (if neg=true then !(b == c) else b == c)) H:=rfl
section
variable {X:Cx}
def kR:OpR X (compareOp .IsNot) (NS true):=by
 intro pins s σ H x y v u Q I rx ry h;unfold NS at h;split at h
 ·rename_i b c;cases (show v=Value.bool b from rx);cases (show u=Value.bool c from ry);refine wpAny_isNot_plain (by cases b<;>cases c<;>rfl) ⟨.bl (!(b == c)),H,I,?_,h⟩
  cases b<;>cases c<;>rfl
 ·exact h.elim
end
section
variable {prog:Program}{w:World}{A:Around}{E:Value->Shared->Prop}{K:Frag}{x C dx:Addr}{s:Shared}{name:Str}{v:Value}
end
section
variable {X:Cx}{e o value:Expr}{ta tv:TE}{f:Str}{pos pos':Pos}
end
open Sem (wp)
open AutoSeq1 (wpAny_loadPart')
section
variable {X:Cx}
end
def KN(o:Obj):Prop:=∃ vs,o.data=.fields vs/\vs[2]? = some .none
section
variable {prog:Program}{w:World}{A:Around}{E:Value->Shared->Prop}{s:Shared}
end
def QE(X:Cx):Prop:=∃ (e:Addr) (oe:Obj) (u:HO),X.A.handled=some (.ref e)/\X.H₀ e=some (.frz oe u)/\KN oe
structure Q7(P:Program)(w:World)(K:W.Frag)(tg:Expr)(J:It)(fp:List Addr)(it:Addr)(tn:Nat->Heap->Prop):Prop where
 mem:it∈fp
 obj:∀ i h,tn i h->∀ b∈fp,∃ o,h.get? b=some o/\∀ v,o.data ≠ .cell v
 keep:∀ i h h',tn i h->(∀ b∈fp,∀ o,h.get? b=some o->h'.get? b=some o)->tn i h'
 item:∀ (X:Cx),X.prog=P->X.w=w->X.K=K->QE X->∀ (i:Nat) (pins:List (Addr × Obj)) (s:Shared) (σ:St) (H:Hp) (E:Value->Shared->Prop),Inv X pins σ H s->(∀ b∈fp,rS X pins H b)->tn i s.heap->J.go i H →
  wpAny (model P w) X.A (pyNext (.ref it)) (λ r s1=>∃ u,r=some u /\
   wpAny (model P w) X.A (letOwnedTupleGo tg (.ref it) u) (λ _ s2=>∃ x H',Inv X pins σ H' s2/\bD x u/\J.yld i H x H'/\tn (i+1) s2.heap/\∀ b∈fp,H' b=none) E s1) E s
 done:∀ (X:Cx),X.prog=P->X.w=w->X.K=K->QE X->∀ (i:Nat) (pins:List (Addr × Obj)) (s:Shared) (σ:St) (H:Hp) (E:Value->Shared->Prop),Inv X pins σ H s->(∀ b∈fp,rS X pins H b)->tn i s.heap->J.stop i H →
  wpAny (model P w) X.A (pyNext (.ref it)) (λ r s1=>r=none/\Inv X pins σ H s1) E s
section
variable {X:Cx}{tg:Expr}
end
structure PB(k:Nat)(e:Addr)(A:Around):Prop where
 hd:A.handled=some (.ref e)
 dp:A.depth+3 * k+5 < recursionLimit
 un:A.units+16 * k+200 < cLine
structure Q8(P:Program)(w:World)(K:W.Frag)(mg:Str->Option Value)(base:Heap)(CX:CXT)(k:Nat)(f:Addr)(fd:FuncData)(ps:List Str)(sp:Sp):Prop where
 len:∀ vs H Q E,sp vs H Q E->vs.length=ps.length
 run:∀ (A:Around) (outer:List Env) (s:Shared) (H:Hp) (args:Args) (us:List Value) (vs:List V) (Q:VK) (E:XK) (e:Addr) (oe:Obj) (u:HO),PB k e A->H e=some (.frz oe u)->KN oe->E2 P w K mg base A outer s H->BindsTo s fd args (ps.zip us)->aU vs us->sp vs H Q E →
  codeAny (model P w) A (.call (.ref f) args) (CR CX outer P w H s Q E) s
section
variable {X:Cx}
end
abbrev cH(h:Heap)(T:Addr)(a b c:Value):Prop:=h.get? T=some { cls:=.type "tuple",data:=.seq #[a,b,c] }
section
variable {prog:Program}{w:World}{A:Around}{E:Value->Shared->Prop}{s:Shared}
def cx{T:Addr}{a b c x:Value}{k:Nat}{Q:Unit->Shared->Prop}(hT:cH s.heap T a b c)
  (h:∀ h',h'.get? T=some { cls:=.type "tuple",data:=.seq ((#[a,b,c]:Array Value).setIfInBounds k x) }->Heap.SameBut T s.heap h'->Q () { s with heap:=h' }) :
  wpAny (model prog w) A (updateSeq T (·.setIfInBounds k x)) Q E s:=by
 refine SG hT rfl (h _ ?_ (VI ..));rw [R3 _ hT rfl];simp [Obj.mapSeq]
structure mG(z TI TO i j l:Addr)(f g e:List Addr):Prop where
 ti:TI ≠ z/\TI ≠ TO/\TI ≠ i/\TI ≠ j/\TI ≠ l
 zt:z ≠ TO
 zf:z ∉ f
 zg:z ∉ g
 ze:z ∉ e
 tf:TO ∉ f
 tg:TO ∉ g
 te:TO ∉ e
 ig:i ∉ g
 ie:i ∉ e
 jf:j ∉ f
 je:j ∉ e
 lf:l ∉ f
 lg:l ∉ g
variable {z TI TO i j l:Addr}{f g e:List Addr}{ti tj tl:Nat->Heap->Prop}{vi vj vl:Nat->Option Value}{k m n:Nat}{x y u a b c:Value}
def zB(S:Src prog w i f ti vi)(T:Src prog w j g tj vj)(U:Src prog w l e tl vl)(D:mG z TI TO i j l f g e){Q:Value->Shared->Prop}
  (hz:IsZip s.heap z TI TO .none) (a7:cH s.heap TI (.ref i) (.ref j) (.ref l)) (a8:cH s.heap TO a b c) (hi:ti k s.heap) (hj:tj m s.heap) (hl:tl n s.heap) (hx:vi k=some x) (hy:vj m=some y) (hu:vl n=some u)
  (hQ:∀ h',IsZip h' z TI TO (rawInt s.heap.objs.size)->cH h' TO x y u->ti (k+1) h'->tj (m+1) h'->tl (n+1) h'->cH h' s.heap.objs.size x y u->h'.objs.size=s.heap.objs.size+1->(∀ c o,c ∉ [z,TO,i,j,l]->s.heap.get? c=some o->h'.get? c=some o)->Q (.ref s.heap.objs.size) { s with heap:=h' }) :
  wpAny (model prog w) A (Builtin.«zip.__next__» ⟨[.ref z],[]⟩) (λ fin s'=>∃ v,fin=.done (.ret v)/\Q v s') E s:=by
 have iz:i ≠ z:=bc S.mem D.zf;have jz:j ≠ z:=bc T.mem D.zg;have lz:l ≠ z:=bc U.mem D.ze;have a9:i ≠ TO:=bc S.mem D.tf;have bb:j ≠ TO:=bc T.mem D.tg;have bt:l ≠ TO:=bc U.mem D.te;refine wpAny_bind (m:=field (.ref z) 2) (wpAny_field hz rfl (x:=.bool false) rfl ?_);refine wpAny_bind (m:=field (.ref z) 3) (wpAny_field hz rfl (x:=.ref TI) rfl (wpAny_bind (wpAny_seqItems a7 rfl ?_)));refine wpAny_bind (m:=Builtin.SmallTypes.ownedTupleIsFree (.ref z)) ?_;unfold Builtin.SmallTypes.ownedTupleIsFree;refine wpAny_bind (wpAny_field hz rfl (x:=.none) rfl (wpAny_pure ?_));simp only [if_true];refine wpAny_bind (wpAny_rule (wpAny_bind (wpAny_field hz rfl (x:=.ref TO) rfl (wpAny_bind (wpAny_setField_rec hz (by simp) λ q1 z1 s1=>?_)))));replace z1:IsZip q1 z TI TO .ellipsis:=z1;refine wpAny_bind ?_;simp only [List.zipIdx_cons,List.zipIdx_nil,forIn_cons,forIn_nil];refine wpAny_bind (wpAny_bind (wpAny_onRaise (wpAny_bind (m:=Builtin.SmallTypes.nextOf (.ref i)) (S.item _ k _ x _ _ (S.but hi s1.extBut D.zf) hx λ q2 i2 s2=>wpAny_pure ?_))));have o2:cH q2 TO a b c:=s2.extBut _ _ a9.symm (s1.extBut _ _ D.zt.symm a8);refine wpAny_bind (wpAny_seqItems o2 rfl (wpAny_bind (cx o2 λ q3 o3 s3=>wpAny_bind (wpAny_letGo (wpAny_pure ?_)))));replace o3:cH q3 TO x b c:=o3;have j3:tj m q3:=T.but (T.but (T.but hj s1.extBut D.zg) s2.extBut D.ig) s3.extBut D.tg;refine wpAny_bind (wpAny_bind (wpAny_onRaise (wpAny_bind (m:=Builtin.SmallTypes.nextOf (.ref j)) (T.item _ m _ y _ _ j3 hy λ q4 j4 s4=>wpAny_pure ?_))));have o4:cH q4 TO x b c:=s4.extBut _ _ bb.symm o3;refine wpAny_bind (wpAny_seqItems o4 rfl (wpAny_bind (cx o4 λ q5 o5 s5=>wpAny_bind (wpAny_letGo (wpAny_pure ?_)))));replace o5:cH q5 TO x y c:=o5;have l5:tl n q5:=U.but (U.but (U.but (U.but (U.but hl s1.extBut D.ze) s2.extBut D.ie) s3.extBut D.te) s4.extBut D.je) s5.extBut D.te;refine wpAny_bind (wpAny_bind (wpAny_onRaise (wpAny_bind (m:=Builtin.SmallTypes.nextOf (.ref l)) (U.item _ n _ u _ _ l5 hu λ q6 l6 s6=>wpAny_pure ?_))));have o6:cH q6 TO x y c:=s6.extBut _ _ bt.symm o5;refine wpAny_bind (wpAny_seqItems o6 rfl (wpAny_bind (cx o6 λ q7 o7 s7=>wpAny_bind (wpAny_letGo (wpAny_pure (wpAny_pure ?_))))));replace o7:cH q7 TO x y u:=o7;refine wpAny_bind (wpAny_seqItems o7 rfl (wpAny_bind (wpAny_newTuple ?_)));have sz:q7.objs.size=s.heap.objs.size:=by rw [s7.1,s6.1,s5.1,s4.1,s3.1,s2.1,s1.1]
 have z7:IsZip q7 z TI TO .ellipsis:=s7.extBut _ _ D.zt (s6.extBut _ _ lz.symm (s5.extBut _ _ D.zt (s4.extBut _ _ jz.symm (s3.extBut _ _ D.zt (s2.extBut _ _ iz.symm z1)))))
 have k7:∀ c o,c ∉ [z,TO,i,j,l]->s.heap.get? c=some o->q7.get? c=some o:=λ c o hc e=>by
  simp only [Rz,Rv,RV,T3] at hc;exact s7.extBut _ _ hc.2.1 (s6.extBut _ _ hc.2.2.2.2 (s5.extBut _ _ hc.2.1 (s4.extBut _ _ hc.2.2.2.1 (s3.extBut _ _ hc.2.1 (s2.extBut _ _ hc.2.2.1 (s1.extBut _ _ hc.1 e))))))
 have i7:ti (k+1) q7:=S.but (S.but (S.but (S.but (S.but i2 s3.extBut D.tf) s4.extBut D.jf) s5.extBut D.tf) s6.extBut D.lf) s7.extBut D.tf;have j7:tj (m+1) q7:=T.but (T.but (T.but j4 s5.extBut D.tg) s6.extBut D.lg) s7.extBut D.tg;have l7:tl (n+1) q7:=U.but l6 s7.extBut D.te;have a4:z < q7.objs.size:=Heap.lt_size z7;refine wpAny_bind (m:=Builtin.SmallTypes.ownedTupleHandOut (.ref z) (.ref q7.objs.size)) ?_;unfold Builtin.SmallTypes.ownedTupleHandOut;have z8:IsZip (q7.push { cls:=.type "tuple",data:=.seq #[x,y,u] }) z TI TO .ellipsis:=Heap.get?_push_of_some _ z7;refine wpAny_bind (wpAny_setField_rec z8 (by simp) λ q9 z9 s9=>?_);replace z9:IsZip q9 z TI TO (rawInt q7.objs.size):=z9;refine wpAny_setField_rec z9 (by simp) λ aS aX a3=>?_;replace aX:IsZip aS z TI TO (rawInt q7.objs.size):=aX;have up:∀ c o,c ≠ z->q7.get? c=some o->aS.get? c=some o:=λ c o hc e=>a3.extBut _ _ hc (s9.extBut _ _ hc (Heap.get?_push_of_some _ e));have a5:cH aS q7.objs.size x y u:=a3.extBut _ _ (Nat.ne_of_gt a4) (s9.extBut _ _ (Nat.ne_of_gt a4) (Heap.get?_push_size _ rfl));have a6:aS.objs.size=q7.objs.size+1:=by rw [a3.1,s9.1,Heap.size_push]
 rw [sz] at aX a5 a6;refine Ri ⟨_,rfl,?_⟩
 show Q (.ref q7.objs.size) _
 rw [sz];exact hQ aS aX (up _ _ D.zt.symm o7) (S.keep _ _ _ i7 λ c hc o e=>up c o (bc hc D.zf) e) (T.keep _ _ _ j7 λ c hc o e=>up c o (bc hc D.zg) e) (U.keep _ _ _ l7 λ c hc o e=>up c o (bc hc D.ze) e) a5 a6 λ c o hc e=>up c o (λ q=>hc (by simp [q])) (k7 c o hc e)
def Ci(hh:A.handled=none)(S:Src prog w i f ti vi)(T:Src prog w j g tj vj)(U:Src prog w l e tl vl)(D:mG z TI TO i j l f g e){Q:Fin->Shared->Prop}
  (hz:IsZip s.heap z TI TO .none) (aX:cH s.heap TI (.ref i) (.ref j) (.ref l)) (a3:cH s.heap TO a b c) (hi:ti k s.heap) (hj:tj m s.heap) (hl:tl n s.heap) (a4:vi k=none\/vj m=none\/vl n=none)
  (hE:∀ h' e,(∀ c o,c ∉ [z,TO,i,j,l]->s.heap.get? c=some o->h'.get? c=some o)->(∃ o,h'.get? e=some o/\o.cls=.type "StopIteration")->E (.ref e) { s with heap:=h' }) :
  wpAny (model prog w) A (Builtin.«zip.__next__» ⟨[.ref z],[]⟩) Q E s:=by
 have iz:i ≠ z:=bc S.mem D.zf;have jz:j ≠ z:=bc T.mem D.zg;have lz:l ≠ z:=bc U.mem D.ze;have a5:i ≠ TO:=bc S.mem D.tf;have a6:j ≠ TO:=bc T.mem D.tg;refine wpAny_bind (m:=field (.ref z) 2) (wpAny_field hz rfl (x:=.bool false) rfl ?_);refine wpAny_bind (m:=field (.ref z) 3) (wpAny_field hz rfl (x:=.ref TI) rfl (wpAny_bind (wpAny_seqItems aX rfl ?_)));refine wpAny_bind (m:=Builtin.SmallTypes.ownedTupleIsFree (.ref z)) ?_;unfold Builtin.SmallTypes.ownedTupleIsFree;refine wpAny_bind (wpAny_field hz rfl (x:=.none) rfl (wpAny_pure ?_));simp only [if_true];refine wpAny_bind (wpAny_rule (wpAny_bind (wpAny_field hz rfl (x:=.ref TO) rfl (wpAny_bind (wpAny_setField_rec hz (by simp) λ q1 z1 s1=>?_)))));replace z1:IsZip q1 z TI TO .ellipsis:=z1;refine wpAny_bind ?_;simp only [List.zipIdx_cons,List.zipIdx_nil,forIn_cons,forIn_nil];refine wpAny_bind (wpAny_bind (wpAny_onRaise (wpAny_bind (m:=Builtin.SmallTypes.nextOf (.ref i)) ?_)))
 cases hx:vi k with
 | none=>
  refine S.fin _ k _ _ _ hh (S.but hi s1.extBut D.zf) hx λ q2 e s2 ⟨oe,he,aS⟩=>?_;have z2:IsZip q2 z TI TO .ellipsis:=s2 _ _ iz.symm z1;have ez:e ≠ z:=λ q=>by subst q;rw [z2] at he;cases he;simp at aS
  refine R4 z2 (by simp) λ q3 _ s3=>hE q3 e (λ c o hc q=>?_) ⟨oe,s3.extBut _ _ ez he,aS⟩;simp only [Rz,Rv,RV,T3] at hc;exact s3.extBut _ _ hc.1 (s2 _ _ hc.2.2.1 (s1.extBut _ _ hc.1 q))
 | some x=>
  refine S.item _ k _ x _ _ (S.but hi s1.extBut D.zf) hx λ q2 i2 s2=>Ri ?_;have o2:cH q2 TO a b c:=s2.extBut _ _ a5.symm (s1.extBut _ _ D.zt.symm a3);refine My (RM o2 rfl (My (cx o2 λ q3 o3 s3=>My (Sz (Ri ?_)))));replace o3:cH q3 TO x b c:=o3;have j3:tj m q3:=T.but (T.but (T.but hj s1.extBut D.zg) s2.extBut D.ig) s3.extBut D.tg;refine My (My (S5 (My (m:=Builtin.SmallTypes.nextOf (.ref j)) ?_)))
  cases hy:vj m with
  | none=>
   refine T.fin _ m _ _ _ hh j3 hy λ q4 e s4 ⟨oe,he,aS⟩=>?_;have z4:IsZip q4 z TI TO .ellipsis:=s4 _ _ jz.symm (s3.extBut _ _ D.zt (s2.extBut _ _ iz.symm z1));have ez:e ≠ z:=λ q=>by subst q;rw [z4] at he;cases he;simp at aS
   refine R4 z4 (by simp) λ q5 _ s5=>hE q5 e (λ c o hc q=>?_) ⟨oe,s5.extBut _ _ ez he,aS⟩;simp only [Rz,Rv,RV,T3] at hc;exact s5.extBut _ _ hc.1 (s4 _ _ hc.2.2.2.1 (s3.extBut _ _ hc.2.1 (s2.extBut _ _ hc.2.2.1 (s1.extBut _ _ hc.1 q))))
  | some y=>
   have hu:vl n=none:=by
    rcases a4 with h|h|h
    ·rw [hx] at h;cases h
    ·rw [hy] at h;cases h
    ·exact h
   refine T.item _ m _ y _ _ j3 hy λ q4 j4 s4=>Ri ?_;have o4:cH q4 TO x b c:=s4.extBut _ _ a6.symm o3;refine My (RM o4 rfl (My (cx o4 λ q5 o5 s5=>My (Sz (Ri ?_)))));have l5:tl n q5:=U.but (U.but (U.but (U.but (U.but hl s1.extBut D.ze) s2.extBut D.ie) s3.extBut D.te) s4.extBut D.je) s5.extBut D.te;refine My (My (S5 (My (m:=Builtin.SmallTypes.nextOf (.ref l)) (U.fin _ n _ _ _ hh l5 hu λ q6 e s6 ⟨oe,he,aS⟩=>?_))));have z6:IsZip q6 z TI TO .ellipsis:=s6 _ _ lz.symm (s5.extBut _ _ D.zt (s4.extBut _ _ jz.symm (s3.extBut _ _ D.zt (s2.extBut _ _ iz.symm z1))));have ez:e ≠ z:=λ q=>by subst q;rw [z6] at he;cases he;simp at aS
   refine R4 z6 (by simp) λ q7 _ s7=>hE q7 e (λ c o hc q=>?_) ⟨oe,s7.extBut _ _ ez he,aS⟩;simp only [Rz,Rv,RV,T3] at hc;exact s7.extBut _ _ hc.1 (s6 _ _ hc.2.2.2.2 (s5.extBut _ _ hc.2.1 (s4.extBut _ _ hc.2.2.2.1 (s3.extBut _ _ hc.2.1 (s2.extBut _ _ hc.2.2.1 (s1.extBut _ _ hc.1 q))))))
def ma(S:Src prog w i f ti vi)(T:Src prog w j g tj vj)(U:Src prog w l e tl vl)(D:mG z TI TO i j l f g e){Q:Option Value->Shared->Prop}
  (hz:IsZip s.heap z TI TO .none) (aS:cH s.heap TI (.ref i) (.ref j) (.ref l)) (aX:cH s.heap TO a b c) (hi:ti k s.heap) (hj:tj m s.heap) (hl:tl n s.heap) (hx:vi k=some x) (hy:vj m=some y) (hu:vl n=some u)
  (hQ:∀ h',IsZip h' z TI TO (rawInt s.heap.objs.size)->cH h' TO x y u->ti (k+1) h'->tj (m+1) h'->tl (n+1) h'->cH h' s.heap.objs.size x y u->h'.objs.size=s.heap.objs.size+1->(∀ c o,c ∉ [z,TO,i,j,l]->s.heap.get? c=some o->h'.get? c=some o)->Q (some (.ref s.heap.objs.size)) { s with heap:=h' }) :
  wpAny (model prog w) A (pyNext (.ref z)) Q E s:=by
 have ty:s.TypeIs (.ref z) "zip":=⟨_,hz,rfl⟩;unfold pyNext;exact wpAny_bind (wpAny_attempt (wpAny_callSpecial?_slot (name:=Str.ofString "__next__") ty F.slot_zip_next (wpAny_call_entry F.slot_zip_next ty F.entry_zip_next (zB S T U D hz aS aX hi hj hl hx hy hu λ h' c1 c2 c3 c4 c5 c6 c7 c8=>wpAny_pure (hQ h' c1 c2 c3 c4 c5 c6 c7 c8)) (F.args_zip_next_1 _))))
def oO(hh:A.handled=none)(S:Src prog w i f ti vi)(T:Src prog w j g tj vj)(U:Src prog w l e tl vl)(D:mG z TI TO i j l f g e){Q:Option Value->Shared->Prop}
  (hz:IsZip s.heap z TI TO .none) (aS:cH s.heap TI (.ref i) (.ref j) (.ref l)) (aX:cH s.heap TO a b c) (hi:ti k s.heap) (hj:tj m s.heap) (hl:tl n s.heap) (a3:vi k=none\/vj m=none\/vl n=none)
  (hQ:∀ h',(∀ c o,c ∉ [z,TO,i,j,l]->s.heap.get? c=some o->h'.get? c=some o)->Q none { s with heap:=h' }):wpAny (model prog w) A (pyNext (.ref z)) Q E s:=by
 have ty:s.TypeIs (.ref z) "zip":=⟨_,hz,rfl⟩;unfold pyNext;refine wpAny_bind (wpAny_attempt (wpAny_callSpecial?_slot (name:=Str.ofString "__next__") ty F.slot_zip_next (wpAny_call_entry F.slot_zip_next ty F.entry_zip_next (Ci (show A.in1.handled=none from hh) S T U D hz aS aX hi hj hl a3 λ h' e kp he=>?_) (F.args_zip_next_1 _))));obtain⟨o,ho,hc⟩:=he;exact wpAny_bind (wpAny_isInstance (T := "StopIteration") (b:=true) ⟨o,ho,hc⟩ isSubtype_stop (wpAny_pure (hQ _ kp)))
end
def md(a b c:Value):checkTypeCall "zip" ⟨[a,b,c],[]⟩=pure ():=by kernel_rfl
def o8(a b c:Value):checkBuiltinCall "zip.__new__" ⟨[.type "zip",a,b,c],[]⟩=pure ():=by kernel_rfl
def iV(a b c d:Value):argsOk "object.__init__" ⟨[a,b,c,d],[]⟩:=by
 unfold argsOk;rw [signature?_of (id := "object.__init__") (n:=['_','_','t','i','n','i','_','_']) (o:=['t','c','e','j','b','o']) (by kernel_rfl) F.owner_object];kernel_rfl
section
variable {prog:Program}{w:World}{A:Around}{E:Value->Shared->Prop}{s:Shared}
abbrev yq1(a:Addr)(h:Heap):Heap:=h.push (l4 false a)
abbrev yq2(a b:Addr)(h:Heap):Heap:=(yq1 a h).push (l4 false b)
abbrev JQ(a b c:Addr)(h:Heap):Heap:=(yq2 a b h).push (l4 false c)
abbrev yq3(a b c:Addr)(h:Heap):Heap:=(JQ a b c h).push { cls:=.type "tuple",data:=.seq #[.ref h.objs.size,.ref (yq1 a h).objs.size,.ref (yq2 a b h).objs.size] }
abbrev yq4(a b c:Addr)(h:Heap):Heap:=(yq3 a b c h).push { cls:=.type "tuple",data:=.seq #[.none,.none,.none] }
abbrev yq5(a b c:Addr)(h:Heap):Heap:=(yq4 a b c h).push { cls:=.type "zip",data:=.fields #[.none,.bool false,.bool false,.ref (JQ a b c h).objs.size,.ref (yq3 a b c h).objs.size] }
def vN(a b c:Addr)(xs ys us:Array Value):Meets (Builtin.«zip.__new__» ⟨[.type "zip",.ref a,.ref b,.ref c],[]⟩) (λ _ R s=>SeqAt s.heap false a xs/\SeqAt s.heap false b ys/\SeqAt s.heap false c us/\R (.ok (.ret (.ref (yq4 a b c s.heap).objs.size))) { s with heap:=yq5 a b c s.heap }):=
 .of_wp λ prog w A R s h=>by
  obtain⟨hp,g,d,tk,os⟩:=s;obtain⟨h1,h2,h3,h⟩:=h;have aS:=sub_zip;have q1:SeqAt (Shared.heap ⟨hp,g,d,tk,os⟩) false a xs:=h1;have q2:SeqAt (Shared.heap ⟨hp.push (l4 false a),g,d,tk,os⟩) false b ys:=h2.at λ o e=>Rc _ e;have q3:SeqAt (Shared.heap ⟨(hp.push (l4 false a)).push (l4 false b),g,d,tk,os⟩) false c us:=h3.at λ o e=>Rc _ (Rc _ e)
  wp_walk using kl q1,kl q2,kl q3
  exact⟨_,rfl,h⟩
def JB{a b c:Addr}{xs ys us:Array Value}{Q:Value->Shared->Prop}(h1:SeqAt s.heap false a xs)(h2:SeqAt s.heap false b ys)(h3:SeqAt s.heap false c us)
  (h:∀ h' n,n=s.heap.objs.size->IsZip h' (n+5) (n+3) (n+4) .none->cH h' (n+3) (.ref n) (.ref (n+1)) (.ref (n+2))->cH h' (n+4) .none .none .none->bf h' false n a 0->bf h' false (n+1) b 0->bf h' false (n+2) c 0->h'.objs.size=n+6->(∀ c o,s.heap.get? c=some o->h'.get? c=some o)->Q (.ref (n+5)) { s with heap:=h' }) :
  wpAny (model prog w) A (call (.type "zip") [.ref a,.ref b,.ref c]) Q E s:=by
 refine callType_new F.called_zip (by decide) (md _ _ _) (o8 _ _ _) (λ ob=>iV ob _ _ _) F.entry_zip_new (vN a b c xs ys us) ⟨h1,h2,h3,?_⟩;have n1:(yq1 a s.heap).objs.size=s.heap.objs.size+1:=RT ..;have n2:(yq2 a b s.heap).objs.size=s.heap.objs.size+2:=by rw [RT,n1]
 have n3:(JQ a b c s.heap).objs.size=s.heap.objs.size+3:=by rw [RT,n2]
 have n4:(yq3 a b c s.heap).objs.size=s.heap.objs.size+4:=by rw [RT,n3]
 have n5:(yq4 a b c s.heap).objs.size=s.heap.objs.size+5:=by rw [RT,n4]
 have n6:(yq5 a b c s.heap).objs.size=s.heap.objs.size+6:=by rw [RT,n5]
 have f1:bf (yq1 a s.heap) false s.heap.objs.size a 0:=⟨_,Rn _ rfl,rfl,rfl⟩;have f2:bf (yq2 a b s.heap) false (yq1 a s.heap).objs.size b 0:=⟨_,Rn _ rfl,rfl,rfl⟩;have f3:bf (JQ a b c s.heap) false (yq2 a b s.heap).objs.size c 0:=⟨_,Rn _ rfl,rfl,rfl⟩;have u2:∀ d o,(JQ a b c s.heap).get? d=some o->(yq5 a b c s.heap).get? d=some o:=λ d o e=>Rc _ (Rc _ (Rc _ e));have g5:(yq5 a b c s.heap).get? (yq4 a b c s.heap).objs.size=some _:=Rn _ rfl;have g4:(yq5 a b c s.heap).get? (yq3 a b c s.heap).objs.size=some _:=Rc _ (Rn _ rfl);have g3:(yq5 a b c s.heap).get? (JQ a b c s.heap).objs.size=some _:=Rc _ (Rc _ (Rn _ rfl));have e1:bf (yq5 a b c s.heap) false s.heap.objs.size a 0:=f1.at λ o e=>u2 _ o (Rc _ (Rc _ e));have e2:bf (yq5 a b c s.heap) false (yq1 a s.heap).objs.size b 0:=f2.at λ o e=>u2 _ o (Rc _ e);have e3:bf (yq5 a b c s.heap) false (yq2 a b s.heap).objs.size c 0:=f3.at λ o e=>u2 _ o e
 show _/\_
 rw [n3,n4,n5] at g5;rw [n1,n2,n3] at g3;rw [n4] at g4;rw [n1] at e2;rw [n2] at e3;rw [n5];exact⟨⟨_,g5,rfl⟩,h _ _ rfl g5 g3 g4 e1 e2 e3 n6 λ d o e=>u2 d o (Rc _ (Rc _ (Rc _ e)))⟩
end
def It3(a b c:Addr)(xs ys us:List V):It:=
 ⟨λ i H=>SqK false H a xs/\SqK false H b ys/\SqK false H c us/\i < xs.length/\i < ys.length/\i < us.length,λ i H x H'=>∃ p u v t,H p=none/\x=.ref p/\xs[i]? = some u/\ys[i]? = some v/\us[i]? = some t/\H'=upd H p (.tup [u,v,t]),λ i H=>SqK false H a xs/\SqK false H b ys/\SqK false H c us/\(xs.length<=i\/ys.length<=i\/us.length<=i)⟩
def Tn3(a b c z TI TO p q r:Addr)(i:Nat)(h:Heap):Prop:=IsZip h z TI TO .none/\cH h TI (.ref p) (.ref q) (.ref r)/\(∃ u v t,cH h TO u v t)/\bf h false p a i/\bf h false q b i/\bf h false r c i
def zF{P:Program}{w:World}{K:W.Frag}{elts:List Expr}{x1}{tp:Pos}(a b c z TI TO p q r:Addr)(xs ys us:List V)(nd:[z,TI,TO,p,q,r].Nodup):BS P w K (.Tuple elts x1 tp) (It3 a b c xs ys us) [z,TI,TO,p,q,r] z (Tn3 a b c z TI TO p q r) where
 mem:=Rr
 obj:=λ i h st d hd=>by
  obtain⟨e1,e2,⟨u,v,t,e3⟩,e4,e5,e6⟩:=st;simp only [Rz,Rv,RV] at hd
  rcases hd with rfl|rfl|rfl|rfl|rfl|rfl
  ·exact⟨_,e1,λ v z=>by cases z⟩
  ·exact⟨_,e2,λ v z=>by cases z⟩
  ·exact⟨_,e3,λ v z=>by cases z⟩
  ·obtain⟨o,fs,e,d⟩:=e4.obj;exact⟨o,e,λ v z=>by rw [d] at z;cases z⟩
  ·obtain⟨o,fs,e,d⟩:=e5.obj;exact⟨o,e,λ v z=>by rw [d] at z;cases z⟩
  ·obtain⟨o,fs,e,d⟩:=e6.obj;exact⟨o,e,λ v z=>by rw [d] at z;cases z⟩
 keep:=λ i h h' st k=>by
  obtain⟨e1,e2,⟨u,v,t,e3⟩,e4,e5,e6⟩:=st;exact⟨k z (by simp) _ e1,k TI (by simp) _ e2,⟨u,v,t,k TO (by simp) _ e3⟩,e4.at λ o e=>k p (by simp) o e,e5.at λ o e=>k q (by simp) o e,e6.at λ o e=>k r (by simp) o e⟩
 item:=by
  intro X hP hw hK hc i pins s σ H E I hf st hg;subst hP hw hK;obtain⟨e1,e2,⟨u0,v0,t0,e3⟩,e4,e5,e6⟩:=st;obtain⟨ha,hb,a4,l1,l2,l3⟩:=hg;obtain⟨as,ra,sa⟩:=I.sq ha;obtain⟨bs,rb,sb⟩:=I.sq hb;obtain⟨cs,rc,sc⟩:=I.sq a4;have hx:xs[i]? = some xs[i]:=Rb l1;have hy:ys[i]? = some ys[i]:=Rb l2;have ht:us[i]? = some us[i]:=Rb l3;obtain⟨u,hu,ru⟩:=ra.get hx;obtain⟨v,hv,rv⟩:=rb.get hy;obtain⟨y,a5,ry⟩:=rc.get ht;have free:∀ d∈[z,TI,TO,p,q,r],H d=none:=λ d h=>(hf d h).1;have aS:∀ d∈[z,TI,TO,p,q,r],a ≠ d:=λ d h=>ha.ne (free d h);have aX:∀ d∈[z,TI,TO,p,q,r],b ≠ d:=λ d h=>hb.ne (free d h);have a3:∀ d∈[z,TI,TO,p,q,r],c ≠ d:=λ d h=>a4.ne (free d h);simp only [SY,Rz,Rv,RV,T3,Tq,and_true,TM] at nd;obtain⟨⟨z1,z2,z3,z4,z5⟩,⟨t1,t2,t3,t4⟩,⟨w1,w2,w3⟩,⟨y1,y2⟩,y3⟩:=nd;have S:=dS (prog:=X.prog) (w:=X.w) false p a (aS p (by simp)) as.toArray;have T:=dS (prog:=X.prog) (w:=X.w) false q b (aX q (by simp)) bs.toArray;have U:=dS (prog:=X.prog) (w:=X.w) false r c (a3 r (by simp)) cs.toArray;have D:mG z TI TO p q r [p,a] [q,b] [r,c]:=⟨⟨Ru z1,t1,t2,t3,t4⟩,z2,by simp [z3,Ru (aS z (by simp))],by simp [z4,Ru (aX z (by simp))],by simp [z5,Ru (a3 z (by simp))],by simp [w1,Ru (aS TO (by simp))],by simp [w2,Ru (aX TO (by simp))],by simp [w3,Ru (a3 TO (by simp))],by simp [y1,Ru (aX p (by simp))],by simp [y2,Ru (a3 p (by simp))],by simp [Ru y1,Ru (aS q (by simp))],by simp [y3,Ru (a3 q (by simp))],by simp [Ru y2,Ru (aS r (by simp))],by simp [Ru y3,Ru (aX r (by simp))]⟩;refine ma S T U D e1 e2 e3 ⟨e4,sa⟩ ⟨e5,sb⟩ ⟨e6,sc⟩ (x:=u) (y:=v) (u:=y) (by simpa using hu) (by simpa using hv) (by simpa using a5) λ h1 c1 c2 c3 c4 a6 c5 c6 c7=>?_;refine⟨_,rfl,wpAny_letOwnedTupleGo_zip (s:={ s with heap:=h1 }) c1 λ h2 d1 d2=>?_⟩;have lt:z < s.heap.objs.size:=Rk e1;have kp:∀ d o,d ∉ [z,TO,p,q,r]->s.heap.get? d=some o->h2.get? d=some o:=λ d o hd e=>d2.extBut _ _ (λ q=>hd (by simp [q])) (c7 d o hd e);have hn:h2.get? s.heap.objs.size=some { cls:=.type "tuple",data:=.seq #[u,v,y] }:=d2.extBut _ _ (Sd lt) c5;have I2:Inv X pins σ (upd H s.heap.objs.size (.tup [xs[i],ys[i],us[i]])) { s with heap:=h2 }:=I.turnNew (t':=s.toks) (ch:=[z,TO,p,q,r]) (λ d hd=>hf d (by simp only [Rz,Rv,RV] at hd ⊢;rcases hd with h|h|h|h|h<;>simp [h])) kp (Rl _) ⟨(show 3<=sizeLine by decide),[u,v,y],.cons ru (.cons rv (.cons ry .nil)),⟨_,hn,rfl,_,rfl⟩⟩;have fr:H s.heap.objs.size=none:=I.hok.fresh (Rl _);refine⟨.ref s.heap.objs.size,_,I2,rfl,⟨_,_,_,_,fr,rfl,hx,hy,ht,rfl⟩,⟨d1,d2.extBut _ _ (Ru z1) (c7 TI _ (by simp [Ru z1,t1,t2,t3,t4]) e2),⟨u,v,y,d2.extBut _ _ (Ru z2) c2⟩,c3.1.at λ o e=>d2.extBut _ _ (Ru z3) e,c4.1.at λ o e=>d2.extBut _ _ (Ru z4) e,a6.1.at λ o e=>d2.extBut _ _ (Ru z5) e⟩,λ d hd=>?_⟩
  obtain⟨o,ho,_⟩:∃ o,s.heap.get? d=some o/\True:=by
   simp only [Rz,Rv,RV] at hd
   rcases hd with rfl|rfl|rfl|rfl|rfl|rfl
   ·exact⟨_,e1,trivial⟩
   ·exact⟨_,e2,trivial⟩
   ·exact⟨_,e3,trivial⟩
   ·obtain⟨o,_,e,_⟩:=e4.obj;exact⟨o,e,trivial⟩
   ·obtain⟨o,_,e,_⟩:=e5.obj;exact⟨o,e,trivial⟩
   ·obtain⟨o,_,e,_⟩:=e6.obj;exact⟨o,e,trivial⟩
  rw [ah (RC (Rk ho))];exact free d hd
 done:=by
  intro X hP hw hK hc i pins s σ H E I hf st hg;subst hP hw hK;obtain⟨e1,e2,⟨u0,v0,t0,e3⟩,e4,e5,e6⟩:=st;obtain⟨ha,hb,a4,l⟩:=hg;obtain⟨as,ra,sa⟩:=I.sq ha;obtain⟨bs,rb,sb⟩:=I.sq hb;obtain⟨cs,rc,sc⟩:=I.sq a4;have free:∀ d∈[z,TI,TO,p,q,r],H d=none:=λ d h=>(hf d h).1;have aS:∀ d∈[z,TI,TO,p,q,r],a ≠ d:=λ d h=>ha.ne (free d h);have aX:∀ d∈[z,TI,TO,p,q,r],b ≠ d:=λ d h=>hb.ne (free d h);have a3:∀ d∈[z,TI,TO,p,q,r],c ≠ d:=λ d h=>a4.ne (free d h);simp only [SY,Rz,Rv,RV,T3,Tq,and_true,TM] at nd;obtain⟨⟨z1,z2,z3,z4,z5⟩,⟨t1,t2,t3,t4⟩,⟨w1,w2,w3⟩,⟨y1,y2⟩,y3⟩:=nd;have S:=dS (prog:=X.prog) (w:=X.w) false p a (aS p (by simp)) as.toArray;have T:=dS (prog:=X.prog) (w:=X.w) false q b (aX q (by simp)) bs.toArray;have U:=dS (prog:=X.prog) (w:=X.w) false r c (a3 r (by simp)) cs.toArray;have D:mG z TI TO p q r [p,a] [q,b] [r,c]:=⟨⟨Ru z1,t1,t2,t3,t4⟩,z2,by simp [z3,Ru (aS z (by simp))],by simp [z4,Ru (aX z (by simp))],by simp [z5,Ru (a3 z (by simp))],by simp [w1,Ru (aS TO (by simp))],by simp [w2,Ru (aX TO (by simp))],by simp [w3,Ru (a3 TO (by simp))],by simp [y1,Ru (aX p (by simp))],by simp [y2,Ru (a3 p (by simp))],by simp [Ru y1,Ru (aS q (by simp))],by simp [y3,Ru (a3 q (by simp))],by simp [Ru y2,Ru (aS r (by simp))],by simp [Ru y3,Ru (aX r (by simp))]⟩;have la:=ra.length;have lb:=rb.length;have lc:=rc.length;refine oO (I.ok.hd hc) S T U D e1 e2 e3 ⟨e4,sa⟩ ⟨e5,sb⟩ ⟨e6,sc⟩ (l.imp (λ h=>by simp;omega) (Or.imp (λ h=>by simp;omega) λ h=>by simp;omega)) λ h1 kp=>⟨rfl,I.turnL (t':=s.toks) (ch:=[z,TO,p,q,r]) (λ d hd=>hf d (by simp only [Rz,Rv,RV] at hd ⊢;rcases hd with h|h|h|h|h<;>simp [h])) kp⟩
 self:=λ _ _ _ _ _ st h=>Uw st.1 h
def kY2(a b c:Addr)(xs ys:List V)(H:Hp)(R:It->Hp->Prop):List V->Prop:=λ us=>R (It3 a b c xs ys us) H
def O6(a b c:Addr)(xs ys us:List V)(H:Hp)(R:It->Hp->Prop):kY2 a b c xs ys H R us=R (It3 a b c xs ys us) H:=rfl
def kY1(a b c:Addr)(xs:List V)(H:Hp)(R:It->Hp->Prop):List V->Prop:=λ ys=>aH (aA H c) (kY2 a b c xs ys H R)
def O7(a b c:Addr)(xs ys:List V)(H:Hp)(R:It->Hp->Prop):kY1 a b c xs H R ys=aH (aA H c) (kY2 a b c xs ys H R):=rfl
def kY(a b c:Addr)(H:Hp)(R:It->Hp->Prop):List V->Prop:=λ xs=>aH (aA H b) (kY1 a b c xs H R)
def QW(a b c:Addr)(xs:List V)(H:Hp)(R:It->Hp->Prop):kY a b c H R xs=aH (aA H b) (kY1 a b c xs H R):=rfl
def kY0(R:It->Hp->Prop):List V->Hp->Prop:=λ vs H=>match vs with
 | [.ref a,.ref b,.ref c]=>aH (aA H a) (kY a b c H R)
 | _=>False
def O8(R:It->Hp->Prop)(a b c:Addr)(H:Hp):kY0 R [.ref a,.ref b,.ref c] H=aH (aA H a) (kY a b c H R):=rfl
def KC(ta:TA):TI:=λ σ H R=>ta σ H (kY0 R)
def IT(ta:TA)(σ:St)(H:Hp)(R:It->Hp->Prop):KC ta σ H R=ta σ H (kY0 R):=rfl
section
variable {X:Cx}
def Hi{a b c:Expr}{elts:List Expr}{x1}{tp:Pos}{ta:TA}{p pos:Pos}(hg:Gl X "zip")(hm:X.mg "zip"=none)(ha:PA X [a,b,c] ta)(hs:starEach [a,b,c] X.env=[(false,eval a X.env),(false,eval b X.env),(false,eval c X.env)]:=by rfl)(aS:starEach [b,c] X.env=[(false,eval b X.env),(false,eval c X.env)]:=by rfl) :
  PI X (.Tuple elts x1 tp) (.Call (.Name "zip" p) [a,b,c] [] pos) (KC ta):=by
 intro pins s σ H R I h;refine Call_ (eN I hg hm (show bootBuiltins "zip"=some (.type "zip") by decide +kernel) (PyProof.Rows.callWith_type1 (thn (ha pos pins s σ H _ I h) λ us s1 ⟨vs,H1,I1,r1,q1⟩=>?_) (by rw [hs,aS]) (by rw [aS];rfl)));unfold kY0 at q1;split at q1
 ·rename_i a b c;obtain⟨xs,e1,q1⟩:=ai q1;obtain⟨ys,e2,q1⟩:=ai q1;obtain⟨zs,e3,q⟩:=ai q1;have sa:SqK false H1 a xs:=bj e1;have sb:SqK false H1 b ys:=bj e2;have sc:SqK false H1 c zs:=bj e3
  cases r1 with
  | cons r rr=>
   cases rr with
   | cons r' rr=>
    cases rr with
    | cons r'' rr=>
     cases rr;cases r;cases r';cases r'';obtain⟨as,ra,aX⟩:=I1.sq sa;obtain⟨bs,rb,a3⟩:=I1.sq sb;obtain⟨cs,rc,a4⟩:=I1.sq sc;refine JB aX a3 a4 λ h' n hn e1 e2 e3 e4 e5 a5 e6 e7=>?_;have I2:Inv X pins σ H1 { s1 with heap:=h' }:=I1.kept (t':=s1.toks) e7;refine Uw (s:={ s1 with heap:=h' }) e1 ⟨n+5,[n+5,n+3,n+4,n,n+1,n+2],_,_,H1,rfl,I2,zF a b c (n+5) (n+3) (n+4) n (n+1) (n+2) xs ys zs (by simp),⟨e1,e2,⟨_,_,_,e3⟩,e4,e5,a5⟩,λ d hd=>?_,q⟩
     have hle:s1.heap.objs.size<=d:=by
      rw [←hn];simp only [Rz,Rv,RV] at hd
      rcases hd with rfl|rfl|rfl|rfl|rfl|rfl
      ·exact Sg ..
      ·exact Sg ..
      ·exact Sg ..
      ·exact Rl _
      ·exact Sg ..
      ·exact Sg ..
     exact I1.fpOk hle (I1.hok.fresh hle)
 ·exact q1.elim
end
def Ex{g:TG}{σ:St}{H:Hp}{tb:TS}{nx:St->Hp->Prop}{rt:VK}{bk ct:St->Hp->Prop}{a b c:Addr}{xs ys us:List V}(Pv:Nat->St->Hp->Prop)(h0:Pv 0 σ H)(hl:∀ i σ H,Pv i σ H->H a=some (.lst xs)/\H b=some (.lst ys)/\H c=some (.lst us))
  (hs:∀ i u v t p σ H H',xs[i]? = some u->ys[i]? = some v->us[i]? = some t->Pv i σ H->H p=none->Ext H H'->H' p=some (.tup [u,v,t])->g (.ref p) σ H' (rW tb ⟨Pv (i+1),rt,nx,Pv (i+1)⟩)) (hd:∀ σ H,Pv (min xs.length (min ys.length us.length)) σ H->nx σ H):FA g tb ⟨nx,rt,bk,ct⟩ σ (It3 a b c xs ys us) H:=by
 refine⟨λ i m σ H=>m=min xs.length (min ys.length us.length) - i/\i<=min xs.length (min ys.length us.length)/\Pv i σ H,⟨min xs.length (min ys.length us.length),by simp,So _,h0⟩,?_⟩;rintro i m σ H ⟨rfl,hi,p⟩;obtain⟨qa,qb,qc⟩:=hl i σ H p
 by_cases hlt:i < min xs.length (min ys.length us.length)
 ·refine .inr ⟨⟨qa,qb,qc,by omega,by omega,by omega⟩,Pv (i+1),λ σ' H' p'=>⟨min xs.length (min ys.length us.length) - (i+1),by omega,rfl,hlt,p'⟩,λ x H' y=>?_⟩;obtain⟨r,u,v,t,hr,rfl,hu,hv,ht,rfl⟩:=y;exact hs i u v t r σ H _ hu hv ht p hr (Ext.new hr) aq
 ·have e:i=min xs.length (min ys.length us.length):=by omega
  subst e;exact .inl ⟨⟨qa,qb,qc,by omega⟩,hd σ H p⟩
def Od(Q:VK)(a:Addr):VK:=λ y H=>∃ o,pD H a y o/\Q (o.getD .non) H
def Ql(ty:TE)(σ:St)(Q:VK):VK:=λ x H=>∃ a,x=.ref a/\IsD H a/\ty σ H (Od Q a)
def Dr(td ty:TE)(σ:St)(H:Hp)(Q:VK):E9 td ty σ H Q=td σ H (Ql ty σ Q):=rfl
def Co{ty:TE}{σ:St}{Q:VK}{H:Hp}{a:Addr}{kvs:List (Key × V)}(e:H a=some (.dK kvs))(q:ty σ H (Od Q a)):Ql ty σ Q (.ref a) H:=⟨a,rfl,.inl ⟨kvs,.inl e⟩,q⟩
def GH{Q:VK}{H:Hp}{a:Addr}{kvs:List (Key × V)}{k:Key}(e:H a=some (.dK kvs))(q:Q ((eK kvs k).getD .non) H):Od Q a (kV k) H:=⟨_,pD.k e,q⟩
def Ob(Q:VK)(a:Addr)(y:V):VK:=λ z H=>∃ o,pD H a y o/\Q (o.getD z) H
def Oc(tx:TE)(σ:St)(Q:VK)(a:Addr):VK:=λ y H=>tx σ H (Ob Q a y)
def Mu(tx:TE)(σ:St)(Q:VK)(a:Addr)(y:V)(H:Hp):Oc tx σ Q a y H=tx σ H (Ob Q a y):=rfl
def Qk(ty tx:TE)(σ:St)(Q:VK):VK:=λ x H=>∃ a,x=.ref a/\IsD H a/\ty σ H (Oc tx σ Q a)
def Dq(td ty tx:TE)(σ:St)(H:Hp)(Q:VK):E8 td ty tx σ H Q=td σ H (Qk ty tx σ Q):=rfl
def GI{ty tx:TE}{σ:St}{Q:VK}{H:Hp}{a:Addr}{kvs:List (Key × V)}(e:H a=some (.dK kvs))(q:ty σ H (Oc tx σ Q a)):Qk ty tx σ Q (.ref a) H:=⟨a,rfl,.inl ⟨kvs,.inl e⟩,q⟩
def KQ{Q:VK}{H:Hp}{a:Addr}{kvs:List (Key × V)}{k:Key}{z:V}(e:H a=some (.dK kvs))(q:Q ((eK kvs k).getD z) H):Ob Q a (kV k) z H:=⟨_,pD.k e,q⟩
def QP(neg:Bool):R2:=λ x y H Q=>∃ d ds,gU H 6 x=some d/\gU H 6 y=some (.list ds)/\Q (.bl (if neg=true then !(ds.any λ y=>PyData.eqv y d) else ds.any λ y=>PyData.eqv y d)) H
section
variable {X:Cx}
def DG{ds:List PyData}(h:(PyData.list ds).canLay0=true):PyData.canLayAll0 ds=true:=by simpa [PyData.canLay0] using h
def qo(hu:X.A.units+64 < cLine):OpR X (compareOp .NotIn) (QP true):=by
 intro pins s σ H x y v u Q I rx ry h;obtain⟨d,ds,e1,e2,q⟩:=h;obtain⟨a,b,c⟩:=kq (K:=X.K) 6 x d e1;obtain⟨a',b',c'⟩:=kq (K:=X.K) 6 y _ e2;obtain⟨as,z⟩:=a.reads I rx;obtain⟨bs,z'⟩:=a'.reads I ry;exact SeqAt.notIn_list_reads z' z (DG b') b (by have:=Nat.min_le_right (PyData.depthAll ds) d.depth;omega) ⟨.bl _,H,I,rfl,q⟩
end
def yj(X:Cx)(f:Value)(ks:List Str)(r:List V->List V->Hp->VK->Prop):Prop:=∀ pins s σ H vs us zs ws Q,Inv X pins σ H s->aU vs us->aU zs ws->r vs zs H Q->wpAny (model X.prog X.w) X.A (call f us (ks.zip ws)) (EP X pins σ Q) X.xe s
def Ou(r:List V->List V->Hp->VK->Prop)(Q:VK)(vs:List V):List V->Hp->Prop:=λ zs H=>r vs zs H Q
def MJ(r:List V->List V->Hp->VK->Prop)(Q:VK)(vs zs:List V)(H:Hp):Ou r Q vs zs H=r vs zs H Q:=rfl
def Ov(r:List V->List V->Hp->VK->Prop)(tk:TA)(σ:St)(Q:VK):List V->Hp->Prop:=λ vs H=>tk σ H (Ou r Q vs)
def MK(r:List V->List V->Hp->VK->Prop)(tk:TA)(σ:St)(Q:VK)(vs:List V)(H:Hp):Ov r tk σ Q vs H=tk σ H (Ou r Q vs):=rfl
def PU(r:List V->List V->Hp->VK->Prop)(t tk:TA):TE:=λ σ H Q=>t σ H (Ov r tk σ Q)
def LM(r:List V->List V->Hp->VK->Prop)(t tk:TA)(σ:St)(H:Hp)(Q:VK):PU r t tk σ H Q=t σ H (Ov r tk σ Q):=rfl
def qm{X:Cx}{id:String}{x:Str}{p pos:Pos}{e:Expr}{es:List Expr}{kws:List Keyword}{ks:List Str}{r:List V->List V->Hp->VK->Prop}{t tk:TA}(hc:yj X (.builtin id) ks r)(hg:Gl X x)(hm:X.mg x=none)(hv:bootBuiltins x=some (.builtin id))(ha:PA X (e::es) t)(hk:PK X kws tk)(hn:x ≠ "__name__":=by decide)(aS:(x == ("__debug__":Str))=false:=by decide)
  (aX:(backToKw pos (keywordEach kws X.env)).filterMap (·.1)=ks:=by rfl)
  (h1:backTo pos (starEach (e::es) X.env)=(false,eval e X.env)::backTo pos (starEach es X.env):=by rfl)
  (h2:(backTo pos (starEach (e::es) X.env)).any (·.1)=false:=by rfl)
  (h3:(backToKw pos (keywordEach kws X.env)).all (·.1.isSome)=true:=by rfl)
  (h4:(backToKw pos (keywordEach kws X.env)).any (·.1.isNone)=false:=by rfl):PE X (.Call (.Name x p) (e::es) kws pos) (PU r t tk):=by
 intro pins s σ H Q I h;refine S6 (eN I hg hm hv ?_ hn aS);refine callWith_kw (thn (ha pos pins s σ H _ I h) λ us s1 ⟨vs,H1,I1,r1,q1⟩=>thn (hk pos pins s1 σ H1 _ I1 q1) λ ws s2 ⟨zs,H2,I2,r2,q2⟩=>?_) h1 h2 h3 h4;rw [aX];exact hc pins s2 σ H2 vs us zs ws Q I2 r1 r2 q2
def mX{prog:Program}{w:World}{A:Around}{E:Value->Shared->Prop}{s:Shared}{id:String}{b:Builtin}{xs:List Value}{kv:List (Str × Value)}{Q:Value->Shared->Prop}(hk:builtinKind id=none)(hp:plainId id=true)
  (hb:entryFor table id=some b) (ha:argsOk id ⟨xs,kv⟩)
  (hc:wpAny (model prog w) A.in1 (b ⟨xs,kv⟩) (λ fin z=>match fin with
   | .done f=>(match (Except.ok f:Result) with | .ok (.ret v)=>Q v z | .ok _=>False | .error e=>E e z)
   | .again c=>c.quiet=true/\codeAny (model prog w) A c (λ r z=>match r with | .ok (.ret v)=>Q v z | .ok _=>False | .error e=>E e z) z) E s) :
  wpAny (model prog w) A (call (.builtin id) xs kv) Q E s:=by
 refine wpAny_call (codeAny_call_builtin (args:=⟨xs,kv⟩) hp hb ?_);simp only [checkBuiltinCall,hk]
 cases hs:Manifest.signature? id with
 | none=>exact Ri hc
 | some sg=>
  simp only [argsOk,hs] at ha;have h2:Bind.checkArgs id sg ⟨xs,kv⟩=pure ():=ha;simp only [h2];exact Ri hc
section
variable {prog:Program}{w:World}{A:Around}{R:Result->Shared->Prop}{J:Addr}{fp wr:List Addr}{G:Array GenState->Array GenState->Prop}{n:Nat}{P:Nat->Value->Prop}{St:Nat->Shared->Prop}
def Dm(kv:List (Str × Value))(W:WalksS prog w A.in1 J fp wr G n P St)(bt:Nat->Nat->Bool)(a5:CmpOf prog w A.in1 .Lt P bt)(D:Addr)(hD:D ∉ fp) :
  ∀ (k j:Nat) (s:Shared) (b:Value) (c:Nat),n - (j+1)=k->j+1<=n->St (j+1) s->P (argBest bt j) b->s.heap.get? D=some { cls:=.type "list",dict:=none,data:=.seq #[b,b] c,slots:=#[] } →
  (∀ v z,P (argBest bt (n - 1)) v->Moved (D::wr) G s z->R (.ok (.ret v)) z)->codeAny (model prog w) A (.builtin "min.loop" ⟨[.ref J,.none,.ref D],kv⟩) R s:=by
 have a6:D ∉ wr:=λ h=>hD (W.sub _ h);have sub:∀ a∈wr,a∈D::wr:=λ a ha=>Ro _ ha;have nm:(toString "min" ++ toString ".loop":String) = "min.loop":=by decide
 have nD:∀ {a:Addr},a ∉ D::wr->D ≠ a:=λ ha h=>ha (by rw [h];exact Rr);intro k
 induction k with
 | zero=>
  intro j s b c hk hj st hb hg hR;have a7:j+1=n:=by omega
  refine(Tc F.entry_min_loop ?_);rw [(SJ To _)]
  show wpAny _ A.in1 ((seqItems? (.ref D)) >>= _) _ _ s
  refine My (RM hg rfl ?_)
  show wpAny _ A.in1 ((tryCatch (pyNext (.ref J)) _) >>= _) _ _ s
  refine My (SX (W.done s _ _ (a7 ▸ st) λ z mv=>?_));have aS:=mv.heap D _ a6 hg
  show wpAny _ A.in1 ((updateSeq D (λ _=>#[])) >>= _) _ _ _
  refine My ?_;refine(SG aS rfl (My (Sz (Ri ?_))));exact hR b _ (by rw [←a7];exact hb) ((mv.mono sub).then_heap (tk:=z.toks) (Rl _) λ a o ha e=>(RK _ _ (nD ha)).trans e)
 | succ k ih=>
  intro j s b c hk hj st hb hg hR;have aX:j+1 < n:=by omega
  refine(Tc F.entry_min_loop ?_);rw [(SJ To _)]
  show wpAny _ A.in1 ((seqItems? (.ref D)) >>= _) _ _ s
  refine My (RM hg rfl ?_)
  show wpAny _ A.in1 ((tryCatch (pyNext (.ref J)) _) >>= _) _ _ s
  refine My (SX (W.item (j+1) s _ _ aX st λ v z hP a8 mv=>?_));have aS:=mv.heap D _ a6 hg
  show wpAny _ A.in1 ((tryCatch (holding [v,v] (richCompare .Lt v b >>= _)) _) >>= _) _ _ _
  refine My (SX (SH (My (a5 (j+1) (argBest bt j) v b _ _ _ hP hb ?_))));refine(My (SH (Sq ?_)));refine(My (Sz (Ri ?_)))
  cases hbt:bt (j+1) (argBest bt j) with
  | true=>
   simp only [T5];refine My ?_;refine(SG aS rfl (My (Sz ?_)));rw [nm];refine Ri ⟨S7 To _,ih (j+1) _ v _ (by omega) aX (W.frame _ z _ z.toks a8 (Rl _) λ a ha o e=>?_) (by simp only [argBest,hbt,T5];exact hP) (R3 _ aS rfl) λ v' z' a3 a4=>?_⟩
   ·exact(RK _ _ (λ h:D=a=>hD (by rw [h];exact ha))).trans e
   ·exact hR v' z' a3 (U6 W.gtrans ((mv.mono sub).then_heap (by first|exact Rl _|exact Ur _|omega) λ a o ha e=>(RK _ _ (nD ha)).trans e) a4)
  | false=>
   simp only [SV,Ua];refine(My (Sz ?_));rw [nm];refine Ri ⟨S7 To _,ih (j+1) _ b c (by omega) aX a8 (by simp only [argBest,hbt,SV,Ua];exact hb) aS λ v' z' a3 a4=>?_⟩;exact hR v' z' a3 (U6 W.gtrans (mv.mono sub) a4)
def Ae(d:Value)(W:WalksS prog w A.in1 J fp wr G n P St)(bt:Nat->Nat->Bool)(aS:CmpOf prog w A.in1 .Lt P bt)(D:Addr)(hD:D ∉ fp){s:Shared}{c:Nat}(st:St 0 s)
  (hg:s.heap.get? D=some { cls:=.type "list",dict:=none,data:=.seq #[] c,slots:=#[] })
  (h0:n=0->∀ z,Moved (D::wr) G s z->R (.ok (.ret d)) z) (hR:0 < n->∀ v z,P (argBest bt (n - 1)) v->Moved (D::wr) G s z->R (.ok (.ret v)) z):codeAny (model prog w) A (.builtin "min.loop" ⟨[.ref J,.none,.ref D],[("default",d)]⟩) R s:=by
 have a3:D ∉ wr:=λ h=>hD (W.sub _ h);have sub:∀ a∈wr,a∈D::wr:=λ a ha=>Ro _ ha;have nm:(toString "min" ++ toString ".loop":String) = "min.loop":=by decide
 have nD:∀ {a:Addr},a ∉ D::wr->D ≠ a:=λ ha h=>ha (by rw [h];exact Rr);refine(Tc F.entry_min_loop ?_);rw [(SJ To _)]
 show wpAny _ A.in1 ((seqItems? (.ref D)) >>= _) _ _ s
 refine My (RM hg rfl ?_)
 show wpAny _ A.in1 ((tryCatch (pyNext (.ref J)) _) >>= _) _ _ s
 by_cases hn:n=0
 ·refine My (SX (W.done s _ _ (by rw [hn];exact st) λ z mv=>?_));refine My (Um (Ri ?_));exact h0 hn z (mv.mono sub)
 ·refine My (SX (W.item 0 s _ _ (by omega) st λ v z hP a4 mv=>?_));have aX:=mv.heap D _ a3 hg
  show wpAny _ A.in1 ((updateSeq D (λ _=>#[v,v])) >>= _) _ _ _
  refine My ?_;refine(SG aX rfl ?_);rw [nm];refine Ri ⟨S7 To _,Dm _ W bt aS D hD _ 0 _ v _ rfl (by omega) (W.frame _ z _ z.toks a4 (Rl _) λ a ha o e=>?_) hP (R3 _ aX rfl) λ v' z' a5 a6=>?_⟩
  ·exact(RK _ _ (λ h:D=a=>hD (by rw [h];exact ha))).trans e
  ·exact hR (by omega) v' z' a5 (U6 W.gtrans ((mv.mono sub).then_heap (by first|exact Rl _|exact Ur _|omega) λ a o ha e=>(RK _ _ (nD ha)).trans e) a6)
end
def BM(a d:Value):argsOk "min" ⟨[a],[("default",d)]⟩:=by unfold argsOk;kernel_rfl
def Bv{prog:Program}{w:World}{A:Around}{E:Value->Shared->Prop}{s:Shared}{x d:Value}{Q:Value->Shared->Prop}
  (h:wpAny (model prog w) A.in1 (pyIter x) (λ it z=>∃ J fp wr G n P St bt,it=.ref J/\WalksS prog w A.in1 J fp wr G n P St/\St 0 z/\(∀ b∈fp,b < z.heap.objs.size)/\CmpOf prog w A.in1 .Lt P bt /\
   (n=0->∀ z',Moved wr G z z'->Q d z')/\(0 < n->∀ v z',P (argBest bt (n - 1)) v->Moved wr G z z'->Q v z')) E s) :
  wpAny (model prog w) A (call (.builtin "min") [x] [("default",d)]) Q E s:=by
 have nm:(toString "min" ++ toString ".loop":String) = "min.loop":=by decide
 refine mX F.kind_min F.plain_min F.entry_min (BM x d) ?_
 show wpAny _ A.in1 (Builtin.Builtins.bindParams "min" ["key", "default"] 0 ⟨[],[("default",d)]⟩ >>= _) _ _ s
 refine My (wpAny_of_eq (show Builtin.Builtins.bindParams "min" ["key", "default"] 0 ⟨[],[("default",d)]⟩=pure [none,some d] from rfl) ?_);refine My (Ri ?_);refine My (thn h λ it z hz=>?_);obtain⟨J,fp,wr,G,n,P,St,bt,rfl,W,st,aX,aS,h0,hQ⟩:=hz;refine My (SR ?_);have hD:z.heap.objs.size ∉ fp:=λ hm=>R9 _ (aX _ hm);rw [nm];refine Ri ⟨S7 To _,Ae d W bt aS z.heap.objs.size hD (W.frame 0 z _ z.toks st (Rl _) λ b _ o e=>Rc _ e) (Rn _ rfl) (λ hn z' mv=>?_) λ hn v z' hP mv=>?_⟩
 ·exact h0 hn z' (Vz (tk:=z.toks) mv (Rl _))
 ·exact hQ hn v z' hP (Vz (tk:=z.toks) mv (Rl _))
def yb(d:Int)(H:Hp)(Q:VK):List Int->Prop:=λ ns=>(ns=[]->Q (.int d) H)/\∀ M,M∈ns->(∀ a∈ns,M<=a)->Q (.int M) H
def FT:List V->List V->Hp->VK->Prop:=λ vs zs H Q=>match vs,zs with
 | [.ref p],[.int d]=>aH (aA H p) (dR (yb d H Q))
 | _,_=>False
def HY(p:Addr)(d:Int)(H:Hp)(Q:VK):FT [.ref p] [.int d] H Q=aH (aA H p) (dR (yb d H Q)):=rfl
def wO{X:Cx}(hc:X.calm=true):yj X (.builtin "min") ["default"] FT:=by
 intro pins s σ H vs us zs ws Q I r rz h;unfold FT at h;split at h
 ·rename_i p d;obtain⟨xs,e,ns,rfl,h0,q⟩:=ai h
  cases rz with
  | cons rd rz'=>
  cases rz'
  cases r with
  | cons r rr=>
   cases rr;cases r;obtain⟨its,rv,pl,hz⟩:=I.list (SqL.of (bj e));have aX:p < s.heap.objs.size:=by obtain⟨_,e,_⟩:=pl.isList;exact Rk e
   have hlen:its.length=ns.length:=by have:=rv.length;simpa using this.symm
   have hsz:its.toArray.size=ns.length:=by simp [hlen]
   have hP:∀ (i:Nat) (v:Value),its.toArray[i]? = some v->∃ t,v=.int (ns.getD i 0) t:=λ i v hP=>by
    have hv:its[i]? = some v:=by simpa using hP
    have hi:i < ns.length:=by rw [←hlen];exact(Rf.mp hv).1
    obtain⟨u,hu,ru⟩:=rv.get (i:=i) (x:=.int (ns.getD i 0)) (by rw [Rq,Rb hi];simp [List.getD,Rb hi]);rw [hv] at hu;cases hu;exact ru
   refine Bv (S0 pl.isList ⟨s.heap.objs.size,_,_,_,_,_,_,λ i j=>decide (ns.getD i 0 < ns.getD j 0),rfl,(Vp (show X.A.in1.handled=none from I.ok.hd hc) _ p (RC aX) its.toArray).toS,⟨⟨_,Rn _ rfl,rfl,rfl⟩,pl.isList.push _⟩,λ b hb=>?_,CmpOf.ints_lt (λ i=>ns.getD i 0) λ i v h=>hP i v h,λ hn s' hm=>?_,λ hn v s' hv hm=>?_⟩)
   ·rw [RT]
    rcases Rz.mp hb with rfl|hb
    ·exact Ss _
    ·rw [Rg.mp hb];exact T7 aX
   ·obtain⟨hp,g,d',tk,os⟩:=s'
    have kp:∀ b o,s.heap.get? b=some o->hp.get? b=some o:=λ b o e=>hm.heap b o (λ aS=>by
     have:b=s.heap.objs.size:=by simpa using aS
     subst this;exact absurd (Rk e) (R9 _)) (Rc _ e)
    have e1:g=s.gens:=hm.gens;have e2:d'=s.drawn:=hm.drawn;have e3:os=s.os:=hm.os;subst e1 e2 e3;exact⟨.int d,H,I.kept (t':=tk) kp,rd,h0 (Sf (by rw [←hsz];exact hn))⟩
   ·obtain⟨hp,g,d',tk,os⟩:=s'
    have kp:∀ b o,s.heap.get? b=some o->hp.get? b=some o:=λ b o e=>hm.heap b o (λ aS=>by
     have:b=s.heap.objs.size:=by simpa using aS
     subst this;exact absurd (Rk e) (R9 _)) (Rc _ e)
    have e1:g=s.gens:=hm.gens;have e2:d'=s.drawn:=hm.drawn;have e3:os=s.os:=hm.os;subst e1 e2 e3;obtain⟨b1,b2⟩:=argBest_lt (λ i=>ns.getD i 0) (its.toArray.size - 1);have a3:=hP _ v hv;generalize argBest (λ i j=>decide (ns.getD i 0 < ns.getD j 0)) (its.toArray.size - 1)=k at b1 b2 a3;rw [hsz] at b1 b2 hn;have hk:k < ns.length:=by omega
    refine⟨.int (ns.getD k 0),H,I.kept (t':=tk) kp,a3,q _ ?_ λ a ha=>?_⟩
    ·rw [List.getD,Rb hk];exact SQ hk
    ·obtain⟨j,hj,rfl⟩:=Ti ha;have:=b2 j (by omega);rw [show ns.getD j 0=ns[j] by rw [List.getD,Rb hj];rfl] at this;exact this
 ·exact h.elim
section
variable {prog:Program}{w:World}{A:Around}{R:Result->Shared->Prop}{J:Addr}{fp wr:List Addr}{G:Array GenState->Array GenState->Prop}{n:Nat}{P:Nat->Value->Prop}{St:Nat->Shared->Prop}
def Dn(kv:List (Str × Value))(W:WalksS prog w A.in1 J fp wr G n P St)(bt:Nat->Nat->Bool)(a5:CmpOf prog w A.in1 .Gt P bt)(D:Addr)(hD:D ∉ fp) :
  ∀ (k j:Nat) (s:Shared) (b:Value) (c:Nat),n - (j+1)=k->j+1<=n->St (j+1) s->P (argBest bt j) b->s.heap.get? D=some { cls:=.type "list",dict:=none,data:=.seq #[b,b] c,slots:=#[] } →
  (∀ v z,P (argBest bt (n - 1)) v->Moved (D::wr) G s z->R (.ok (.ret v)) z)->codeAny (model prog w) A (.builtin "max.loop" ⟨[.ref J,.none,.ref D],kv⟩) R s:=by
 have a6:D ∉ wr:=λ h=>hD (W.sub _ h);have sub:∀ a∈wr,a∈D::wr:=λ a ha=>Ro _ ha;have nm:(toString "max" ++ toString ".loop":String) = "max.loop":=by decide
 have nD:∀ {a:Addr},a ∉ D::wr->D ≠ a:=λ ha h=>ha (by rw [h];exact Rr);intro k
 induction k with
 | zero=>
  intro j s b c hk hj st hb hg hR;have a7:j+1=n:=by omega
  refine(Tc F.entry_max_loop ?_);rw [(SJ Tp _)]
  show wpAny _ A.in1 ((seqItems? (.ref D)) >>= _) _ _ s
  refine My (RM hg rfl ?_)
  show wpAny _ A.in1 ((tryCatch (pyNext (.ref J)) _) >>= _) _ _ s
  refine My (SX (W.done s _ _ (a7 ▸ st) λ z mv=>?_));have aS:=mv.heap D _ a6 hg
  show wpAny _ A.in1 ((updateSeq D (λ _=>#[])) >>= _) _ _ _
  refine My ?_;refine(SG aS rfl (My (Sz (Ri ?_))));exact hR b _ (by rw [←a7];exact hb) ((mv.mono sub).then_heap (tk:=z.toks) (Rl _) λ a o ha e=>(RK _ _ (nD ha)).trans e)
 | succ k ih=>
  intro j s b c hk hj st hb hg hR;have aX:j+1 < n:=by omega
  refine(Tc F.entry_max_loop ?_);rw [(SJ Tp _)]
  show wpAny _ A.in1 ((seqItems? (.ref D)) >>= _) _ _ s
  refine My (RM hg rfl ?_)
  show wpAny _ A.in1 ((tryCatch (pyNext (.ref J)) _) >>= _) _ _ s
  refine My (SX (W.item (j+1) s _ _ aX st λ v z hP a8 mv=>?_));have aS:=mv.heap D _ a6 hg
  show wpAny _ A.in1 ((tryCatch (holding [v,v] (richCompare .Gt v b >>= _)) _) >>= _) _ _ _
  refine My (SX (SH (My (a5 (j+1) (argBest bt j) v b _ _ _ hP hb ?_))));refine(My (SH (Sq ?_)));refine(My (Sz (Ri ?_)))
  cases hbt:bt (j+1) (argBest bt j) with
  | true=>
   simp only [T5];refine My ?_;refine(SG aS rfl (My (Sz ?_)));rw [nm];refine Ri ⟨S7 Tp _,ih (j+1) _ v _ (by omega) aX (W.frame _ z _ z.toks a8 (Rl _) λ a ha o e=>?_) (by simp only [argBest,hbt,T5];exact hP) (R3 _ aS rfl) λ v' z' a3 a4=>?_⟩
   ·exact(RK _ _ (λ h:D=a=>hD (by rw [h];exact ha))).trans e
   ·exact hR v' z' a3 (U6 W.gtrans ((mv.mono sub).then_heap (by first|exact Rl _|exact Ur _|omega) λ a o ha e=>(RK _ _ (nD ha)).trans e) a4)
  | false=>
   simp only [SV,Ua];refine(My (Sz ?_));rw [nm];refine Ri ⟨S7 Tp _,ih (j+1) _ b c (by omega) aX a8 (by simp only [argBest,hbt,SV,Ua];exact hb) aS λ v' z' a3 a4=>?_⟩;exact hR v' z' a3 (U6 W.gtrans (mv.mono sub) a4)
def Af(d:Value)(W:WalksS prog w A.in1 J fp wr G n P St)(bt:Nat->Nat->Bool)(aS:CmpOf prog w A.in1 .Gt P bt)(D:Addr)(hD:D ∉ fp){s:Shared}{c:Nat}(st:St 0 s)
  (hg:s.heap.get? D=some { cls:=.type "list",dict:=none,data:=.seq #[] c,slots:=#[] })
  (h0:n=0->∀ z,Moved (D::wr) G s z->R (.ok (.ret d)) z) (hR:0 < n->∀ v z,P (argBest bt (n - 1)) v->Moved (D::wr) G s z->R (.ok (.ret v)) z):codeAny (model prog w) A (.builtin "max.loop" ⟨[.ref J,.none,.ref D],[("default",d)]⟩) R s:=by
 have a3:D ∉ wr:=λ h=>hD (W.sub _ h);have sub:∀ a∈wr,a∈D::wr:=λ a ha=>Ro _ ha;have nm:(toString "max" ++ toString ".loop":String) = "max.loop":=by decide
 have nD:∀ {a:Addr},a ∉ D::wr->D ≠ a:=λ ha h=>ha (by rw [h];exact Rr);refine(Tc F.entry_max_loop ?_);rw [(SJ Tp _)]
 show wpAny _ A.in1 ((seqItems? (.ref D)) >>= _) _ _ s
 refine My (RM hg rfl ?_)
 show wpAny _ A.in1 ((tryCatch (pyNext (.ref J)) _) >>= _) _ _ s
 by_cases hn:n=0
 ·refine My (SX (W.done s _ _ (by rw [hn];exact st) λ z mv=>?_));refine My (Um (Ri ?_));exact h0 hn z (mv.mono sub)
 ·refine My (SX (W.item 0 s _ _ (by omega) st λ v z hP a4 mv=>?_));have aX:=mv.heap D _ a3 hg
  show wpAny _ A.in1 ((updateSeq D (λ _=>#[v,v])) >>= _) _ _ _
  refine My ?_;refine(SG aX rfl ?_);rw [nm];refine Ri ⟨S7 Tp _,Dn _ W bt aS D hD _ 0 _ v _ rfl (by omega) (W.frame _ z _ z.toks a4 (Rl _) λ a ha o e=>?_) hP (R3 _ aX rfl) λ v' z' a5 a6=>?_⟩
  ·exact(RK _ _ (λ h:D=a=>hD (by rw [h];exact ha))).trans e
  ·exact hR (by omega) v' z' a5 (U6 W.gtrans ((mv.mono sub).then_heap (by first|exact Rl _|exact Ur _|omega) λ a o ha e=>(RK _ _ (nD ha)).trans e) a6)
end
def BN(a d:Value):argsOk "max" ⟨[a],[("default",d)]⟩:=by unfold argsOk;kernel_rfl
def Bx{prog:Program}{w:World}{A:Around}{E:Value->Shared->Prop}{s:Shared}{x d:Value}{Q:Value->Shared->Prop}
  (h:wpAny (model prog w) A.in1 (pyIter x) (λ it z=>∃ J fp wr G n P St bt,it=.ref J/\WalksS prog w A.in1 J fp wr G n P St/\St 0 z/\(∀ b∈fp,b < z.heap.objs.size)/\CmpOf prog w A.in1 .Gt P bt /\
   (n=0->∀ z',Moved wr G z z'->Q d z')/\(0 < n->∀ v z',P (argBest bt (n - 1)) v->Moved wr G z z'->Q v z')) E s) :
  wpAny (model prog w) A (call (.builtin "max") [x] [("default",d)]) Q E s:=by
 have nm:(toString "max" ++ toString ".loop":String) = "max.loop":=by decide
 refine mX F.kind_max F.plain_max F.entry_max (BN x d) ?_
 show wpAny _ A.in1 (Builtin.Builtins.bindParams "max" ["key", "default"] 0 ⟨[],[("default",d)]⟩ >>= _) _ _ s
 refine My (wpAny_of_eq (show Builtin.Builtins.bindParams "max" ["key", "default"] 0 ⟨[],[("default",d)]⟩=pure [none,some d] from rfl) ?_);refine My (Ri ?_);refine My (thn h λ it z hz=>?_);obtain⟨J,fp,wr,G,n,P,St,bt,rfl,W,st,aX,aS,h0,hQ⟩:=hz;refine My (SR ?_);have hD:z.heap.objs.size ∉ fp:=λ hm=>R9 _ (aX _ hm);rw [nm];refine Ri ⟨S7 Tp _,Af d W bt aS z.heap.objs.size hD (W.frame 0 z _ z.toks st (Rl _) λ b _ o e=>Rc _ e) (Rn _ rfl) (λ hn z' mv=>?_) λ hn v z' hP mv=>?_⟩
 ·exact h0 hn z' (Vz (tk:=z.toks) mv (Rl _))
 ·exact hQ hn v z' hP (Vz (tk:=z.toks) mv (Rl _))
def yc(d:Int)(H:Hp)(Q:VK):List Int->Prop:=λ ns=>(ns=[]->Q (.int d) H)/\∀ M,M∈ns->(∀ a∈ns,a<=M)->Q (.int M) H
def FV:List V->List V->Hp->VK->Prop:=λ vs zs H Q=>match vs,zs with
 | [.ref p],[.int d]=>aH (aA H p) (dR (yc d H Q))
 | _,_=>False
def Ia(p:Addr)(d:Int)(H:Hp)(Q:VK):FV [.ref p] [.int d] H Q=aH (aA H p) (dR (yc d H Q)):=rfl
def wQ{X:Cx}(hc:X.calm=true):yj X (.builtin "max") ["default"] FV:=by
 intro pins s σ H vs us zs ws Q I r rz h;unfold FV at h;split at h
 ·rename_i p d;obtain⟨xs,e,ns,rfl,h0,q⟩:=ai h
  cases rz with
  | cons rd rz'=>
  cases rz'
  cases r with
  | cons r rr=>
   cases rr;cases r;obtain⟨its,rv,pl,hz⟩:=I.list (SqL.of (bj e));have aX:p < s.heap.objs.size:=by obtain⟨_,e,_⟩:=pl.isList;exact Rk e
   have hlen:its.length=ns.length:=by have:=rv.length;simpa using this.symm
   have hsz:its.toArray.size=ns.length:=by simp [hlen]
   have hP:∀ (i:Nat) (v:Value),its.toArray[i]? = some v->∃ t,v=.int (ns.getD i 0) t:=λ i v hP=>by
    have hv:its[i]? = some v:=by simpa using hP
    have hi:i < ns.length:=by rw [←hlen];exact(Rf.mp hv).1
    obtain⟨u,hu,ru⟩:=rv.get (i:=i) (x:=.int (ns.getD i 0)) (by rw [Rq,Rb hi];simp [List.getD,Rb hi]);rw [hv] at hu;cases hu;exact ru
   refine Bx (S0 pl.isList ⟨s.heap.objs.size,_,_,_,_,_,_,λ i j=>decide (ns.getD i 0 > ns.getD j 0),rfl,(Vp (show X.A.in1.handled=none from I.ok.hd hc) _ p (RC aX) its.toArray).toS,⟨⟨_,Rn _ rfl,rfl,rfl⟩,pl.isList.push _⟩,λ b hb=>?_,CmpOf.ints_gt (λ i=>ns.getD i 0) λ i v h=>hP i v h,λ hn s' hm=>?_,λ hn v s' hv hm=>?_⟩)
   ·rw [RT]
    rcases Rz.mp hb with rfl|hb
    ·exact Ss _
    ·rw [Rg.mp hb];exact T7 aX
   ·obtain⟨hp,g,d',tk,os⟩:=s'
    have kp:∀ b o,s.heap.get? b=some o->hp.get? b=some o:=λ b o e=>hm.heap b o (λ aS=>by
     have:b=s.heap.objs.size:=by simpa using aS
     subst this;exact absurd (Rk e) (R9 _)) (Rc _ e)
    have e1:g=s.gens:=hm.gens;have e2:d'=s.drawn:=hm.drawn;have e3:os=s.os:=hm.os;subst e1 e2 e3;exact⟨.int d,H,I.kept (t':=tk) kp,rd,h0 (Sf (by rw [←hsz];exact hn))⟩
   ·obtain⟨hp,g,d',tk,os⟩:=s'
    have kp:∀ b o,s.heap.get? b=some o->hp.get? b=some o:=λ b o e=>hm.heap b o (λ aS=>by
     have:b=s.heap.objs.size:=by simpa using aS
     subst this;exact absurd (Rk e) (R9 _)) (Rc _ e)
    have e1:g=s.gens:=hm.gens;have e2:d'=s.drawn:=hm.drawn;have e3:os=s.os:=hm.os;subst e1 e2 e3;obtain⟨b1,b2⟩:=argBest_gt (λ i=>ns.getD i 0) (its.toArray.size - 1);have a3:=hP _ v hv;generalize argBest (λ i j=>decide (ns.getD i 0 > ns.getD j 0)) (its.toArray.size - 1)=k at b1 b2 a3;rw [hsz] at b1 b2 hn;have hk:k < ns.length:=by omega
    refine⟨.int (ns.getD k 0),H,I.kept (t':=tk) kp,a3,q _ ?_ λ a ha=>?_⟩
    ·rw [List.getD,Rb hk];exact SQ hk
    ·obtain⟨j,hj,rfl⟩:=Ti ha;have:=b2 j (by omega);rw [show ns.getD j 0=ns[j] by rw [List.getD,Rb hj];rfl] at this;exact this
 ·exact h.elim
def bF(kv:List (Int × Int))(c:Int):Option Int:=(kv.find? λ p=>decide (p.1=c)).map λ p=>p.2
def lW(kv:List (Int × Int)):List (Key × V):=kv.map λ p=>(Sum.inl p.1,V.int p.2)
def J2(ka kb:List (Int × Int)):Bool:=ka.length == kb.length && ka.all λ p=>bF kb p.1 == some p.2
def kU{p:Int × Int}{r:List (Int × Int)}{c:Int}(e:p.1=c):bF (p::r) c=some p.2:=by simp [bF,TC,e]
def kW{p:Int × Int}{r:List (Int × Int)}{c:Int}(e:¬ p.1=c):bF (p::r) c=bF r c:=by simp [bF,TC,e]
def Ft{a c:Int}(h:¬ a=c):¬ (Sum.inl a:Key)=Sum.inl c:=λ e=>h (Sum.inl.inj e)
def sf:∀ (kv:List (Int × Int)) (c:Int),eK (lW kv) (.inl c)=(bF kv c).map V.int
 | [],c=>rfl
 | p::r,c=>by
  by_cases h:p.1=c
  ·rw [kU h];exact b0 (p:=(Sum.inl p.1,V.int p.2)) (r:=lW r) (SA Sum.inl h)
  ·rw [kW h,←sf r c];exact b6 (p:=(Sum.inl p.1,V.int p.2)) (r:=lW r) (Ft h)
def yu{kv:List (Int × Int)}{c:Int}(v:Int)(h:bF kv c=none):l0 (lW kv) (.inl c) (.int v)=lW (kv++[(c,v)]):=by
 rw [uM _ (by rw [sf,h];rfl)];unfold lW;rw [map_append];rfl
def E4:∀ {kb:List (Int × Int)}{ys:List (Key × Value)},KV (lW kb) ys->∀ c:Int,(bF kb c=none->valueAt ys (.inl c)=none)/\∀ j,bF kb c=some j->∃ t,valueAt ys (.inl c)=some (.int j t)
 | [],_,.nil,c=>⟨λ _=>rfl,λ j h=>by cases h⟩
 | p::r,(k,v)::ys,.cons hk t,c=>by
  obtain⟨i1,i2⟩:=E4 (kb:=r) (ys:=ys) t c;obtain⟨aX,a3⟩:=hk;have aS:Sum.inl p.1=k:=aX;obtain⟨t',hv⟩:∃ t,v=.int p.2 t:=a3;unfold valueAt at *
  by_cases h:p.1=c
  ·have e:decide (k=Sum.inl c)=true:=Rp (by rw [←aS,h]);rw [kU h,TC,e];refine⟨(λ z=>by cases z),λ j hj=>?_⟩;cases hj;exact⟨t',by rw [hv];rfl⟩
  ·have e:decide (k=Sum.inl c)=false:=Ry (by rw [←aS];exact Ft h);rw [kW h,TC,e];exact⟨i1,i2⟩
def uU{A:Around}{s:Shared}{kb:List (Int × Int)}{ys:List (Key × Value)}(hy:KV (lW kb) ys):∀ {ka:List (Int × Int)}{xs:List (Key × Value)},KV (lW ka) xs->W.KeqHits A s ys xs (ka.all λ p=>bF kb p.1 == some p.2)
 | [],_,.nil=>.nil
 | p::r,(k,v)::xs,.cons hk t=>by
  have ih:=uU (A:=A) (s:=s) hy (ka:=r) (xs:=xs) t;obtain⟨aX,a3⟩:=hk;have aS:Sum.inl p.1=k:=aX;obtain⟨t',hv⟩:∃ t,v=.int p.2 t:=a3;subst aS;subst hv;obtain⟨a1,a2⟩:=E4 hy p.1;rw [all_cons]
  cases hl:bF kb p.1 with
  | none=>
   have:=W.KeqHits.miss (A:=A) (s:=s) (v:=.int p.2 t') (r:=xs) (a1 hl);exact this
  | some j=>
   obtain⟨t2,h2⟩:=a2 j hl;have:=W.KeqHits.hit h2 (PySem.SeqAt.EqAt.int_int (A:=A) (s:=s) p.2 t' j t2) ih
   rw [show (some j == some p.2)=(p.2 == j) by
    by_cases e:j=p.2
    ·subst e;simp
    ·have e':¬ p.2=j:=λ z=>e z.symm;rw [show (some j == some p.2)=false from beq_false_of_ne (λ z=>e (RE z)),show (p.2 == j)=false from beq_false_of_ne e']]
   exact this
def Qa:R2:=λ x y H Q=>∃ a b ka kb,x=.ref a/\y=.ref b/\H a=some (.dK (lW ka))/\H b=some (.dK (lW kb))/\Q (.bl (J2 ka kb)) H
def GJ{a b:Addr}{ka kb:List (Int × Int)}{H:Hp}{Q:VK}(ha:H a=some (.dK (lW ka)))(hb:H b=some (.dK (lW kb)))(q:Q (.bl (J2 ka kb)) H):JZ Qa (.ref a) Q (.ref b) H:=⟨a,b,ka,kb,rfl,rfl,ha,hb,q⟩
def Hv{X:Cx}(hu:X.A.units+1 < cLine):OpR X (compareOp .Eq) Qa:=by
 intro pins s σ H x y v u Q I rx ry h;obtain⟨a,b,ka,kb,rfl,rfl,ha,hb,q⟩:=h;cases rx;cases ry;obtain⟨_,za,xs,kx,dx⟩:=Gs I.hok ha;obtain⟨_,zb,ys,ky,dy⟩:=Gs I.hok hb;have lx:xs.length=ka.length:=by rw [←(Paired.length kx)];unfold lW;rw [length_map]
 have ly:ys.length=kb.length:=by rw [←(Paired.length ky)];unfold lW;rw [length_map]
 refine W.keq_eq (r:=ka.all λ p=>bF kb p.1 == some p.2) za zb dx dy (by omega) (λ _=>uU ky kx) ?_;rw [lx,ly];exact⟨.bl (J2 ka kb),H,I,rfl,q⟩
abbrev PKy:=List Int × List Int
section
variable {prog:Program}{w:World}
def pC(prog:Program)(w:World)(h:Heap)(k:PKy)(a:Addr):Prop:=∃ o u v n,h.get? a=some o/\o.cls=.type "tuple" /\ o.data=.seq #[.ref u,.ref v] n/\IsTupleKey (intKind prog w) h k.1 u/\IsTupleKey (intKind prog w) h k.2 v
def pC.inj{h:Heap}{a:Addr}{x y:PKy}(hx:pC prog w h x a)(hy:pC prog w h y a):x=y:=by
 obtain⟨o,u,v,n,h1,h2,h3,h4,h5⟩:=hx;obtain⟨o',u',v',n',g1,g2,g3,g4,g5⟩:=hy;rw [h1] at g1;cases g1;rw [h3] at g3;cases g3;exact Prod.ext (h4.inj g4) (h5.inj g5)
def pC.typeIs{s:Shared}{a:Addr}{k:PKy}(h:pC prog w s.heap k a):s.TypeIs (.ref a) "tuple":=by
 obtain⟨o,u,v,n,h1,h2,_⟩:=h;exact⟨o,h1,h2⟩
def pC.keeps{h h':Heap}{k:PKy}{a d:Addr}{o:Obj}{es:Array DictEntry}{ep:Nat}(hk:pC prog w h k a)(hd:h.get? d=some o)(ho:o.data=.dict es ep)(hs:Heap.SameBut d h h'):pC prog w h' k a:=by
 obtain⟨o',u,v,n,h1,h2,h3,h4,h5⟩:=hk;have aS:a ≠ d:=λ e=>by rw [e,hd] at h1;cases h1;rw [ho] at h3;cases h3
 exact⟨o',u,v,n,(hs.2 a aS).trans h1,h2,h3,h4.keeps hd ho hs,h5.keeps hd ho hs⟩
def uo(prog:Program)(w:World)(k:PKy):Int:=reduceHash (Builtin.Tuple.tupleHashOf [tupleKeyHash (intKind prog w) k.1,tupleKeyHash (intKind prog w) k.2])
def Hg{A:Around}{E:Value->Shared->Prop}{s:Shared}{k:PKy}{a:Addr}{Q:Int->Shared->Prop}(hu:A.units+1 < cLine)(hk:pC prog w s.heap k a)
  (q:Q (uo prog w k) { s with toks:=s.toks+((k.1.length+1)+(k.2.length+1)+1) }):wpAny (model prog w) A (pyHash (.ref a)) Q E s:=by
 have ty:=hk.typeIs;obtain⟨o,u,v,n,h1,h2,h3,h4,h5⟩:=hk;unfold pyHash pyHashByItsType;refine wpAny_bind (wpAny_cRoomFor_or (.inr (by omega)) ?_);refine wpAny_bind (wpAny_specialOf ty PySem.F.slot_tuple_hash.lookup ?_);rw [if_neg (by rw [beq_iff_eq];intro z;cases z)];refine wpAny_bind (wpAny_specialOf ty PySem.F.slot_tuple_hash.lookup ?_);rw [if_neg (by decide)];refine wpAny_bind (wpAny_callSpecialIfBoundUnlessNone?_slot ty PySem.F.slot_tuple_hash (wpAny_call_entry PySem.F.slot_tuple_hash ty PySem.F.entry_tuple_hash ?_ (PySem.F.args_tuple_hash_1 _)));unfold Builtin.«tuple.__hash__»;refine wpAny_bind ?_
 show wpAny _ _ (pure (Value.ref a,_)) _ _ _
 refine Ri ?_;refine My (wpAny_tupleItemsOf h1 h3 ?_);refine My ?_;rw [←Array.forIn_toList]
 show wpAny _ _ (forIn [Value.ref u,Value.ref v] #[] _) _ _ _
 simp only [forIn_cons,forIn_nil];refine wpAny_bind (wpAny_bind (wpAny_pyHash_tuple (show A.units+1 < cLine from hu) h4 (wpAny_pure ?_)));refine wpAny_bind (wpAny_bind (wpAny_pyHash_tuple (show A.units+1 < cLine from hu) h5 (wpAny_pure (wpAny_pure ?_))));unfold retInt;refine wpAny_ret_mkInt ?_
 show wpAny _ _ (pyHashByItsType.reduced _) _ _ _
 have q':Q (uo prog w k) { heap:=s.heap,gens:=s.gens,drawn:=s.drawn,toks:=s.toks+(k.1.length+1)+(k.2.length+1)+1,os:=s.os }:=by
  rw [Nat.add_assoc,Nat.add_assoc,←Nat.add_assoc (k.1.length+1)];exact q
 unfold uo reduceHash at q';unfold pyHashByItsType.reduced;simp only [Array.toList_push,List.nil_append,cons_append];split
 ·rename_i hc;rw [RP hc] at q';exact Ri q'
 ·rename_i hc;rw [RH hc] at q';exact My (Um (Ri q'))
def Ei{k:Int}{v:Value}(h:Value.isInt k v=true):∃ t,v=.int k t:=by
 cases v<;>simp [Value.isInt] at h
 rename_i t;subst h;exact⟨_,rfl⟩
def mR{h:Heap}:∀ {xs:List Int}{vs:List Value},ItemsAre (intKind prog w) xs vs->ReadsAll h vs (xs.map PyData.int) []
 | _,_,.nil=>.nil
 | _,_,.cons (k:=k) (v:=v) hk t=>by
  obtain⟨tk,rfl⟩:=Ei hk;exact .cons (.int _ _) (mR t)
def uE{h:Heap}{xs:List Int}{a:Addr}(hk:IsTupleKey (intKind prog w) h xs a):Reads h (.ref a) (.tuple (xs.map PyData.int)) []:=by
 obtain⟨o,its,n,h1,h2,h3,h4⟩:=hk;exact .tuple h1 h2 h3 (mR h4)
def pkD(k:PKy):PyData:=.tuple [.tuple (k.1.map PyData.int),.tuple (k.2.map PyData.int)]
def pC.reads{h:Heap}{k:PKy}{a:Addr}(hk:pC prog w h k a):Reads h (.ref a) (pkD k) []:=by
 obtain⟨o,u,v,n,h1,h2,h3,h4,h5⟩:=hk;exact .tuple h1 h2 h3 (.cons (uE h4) (.cons (uE h5) .nil))
def x5(k:PKy):(pkD k).canLay0=true/\(pkD k).depth<=2:=by
 have key:∀ xs:List Int,PyData.canLayAll0 (xs.map PyData.int)=true/\PyData.depthAll (xs.map PyData.int)=0:=by
  intro xs
  induction xs with
  | nil=>exact⟨by simp [PyData.canLayAll0],by simp [PyData.depthAll]⟩
  | cons x xs ih=>exact⟨by simp [PyData.canLayAll0,PyData.canLay0,ih.1],by simp [PyData.depthAll,PyData.depth,ih.2]⟩
 exact⟨by simp [pkD,PyData.canLay0,PyData.canLayAll0,key],by simp [pkD,PyData.depth,PyData.depthAll,key]⟩
def Hh(a b:PKy):PyData.eqv (pkD a) (pkD b)=decide (a=b):=by
 unfold pkD;rw [eR,bL,bL,cK,eR,dM,eR,dM,Bool.and_true];obtain⟨a1,a2⟩:=a;obtain⟨b1,b2⟩:=b
 by_cases h1:a1=b1
 ·by_cases h2:a2=b2
  ·simp [h1,h2]
  ·simp [h1,h2]
 ·simp [h1]
def OC{A:Around}{E:Value->Shared->Prop}{s:Shared}{x y:PKy}{a b:Addr}{Q:Bool->Shared->Prop}(hu:A.units+2 < cLine)(hx:pC prog w s.heap x a)(hy:pC prog w s.heap y b)(q:Q (decide (x=y)) s):wpAny (model prog w) A (eqBool (.ref a) (.ref b)) Q E s:=by
 have h1:=(x5 x).2;have:=SeqAt.eqAt_reads (pkD x) (pkD y) A s _ _ _ _ hx.reads hy.reads (x5 x).1 (x5 y).1 (by have:=Nat.min_le_left (pkD x).depth (pkD y).depth;omega);rw [Hh] at this;exact this _ _ _ _ q
def tm{A:Around}{E:Value->Shared->Prop}{s:Shared}{n:Nat}{vs:List Value}{Q:Option Bool × Unit->Shared->Prop}(h:∀ v∈vs,∀ Q':Bool->Shared->Prop,Q' true s->wpAny (model prog w) A (eqIsQuiet n v) Q' E s)(q:Q (none,()) s) :
  wpAny (model prog w) A (forIn vs (none,()) λ y (_:Option Bool × Unit)=>do
   let r ←eqIsQuiet n y
   if (!r)=true then pure (ForInStep.done (some false,())) else pure (ForInStep.yield (none,()))) Q E s:=by
 induction vs with
 | nil=>exact Ri q
 | cons v vs ih=>
  rw [T1];refine My (My (h v Rr _ ?_));rw [RH (by decide)];exact Ri (ih λ v hv=>h v (Ro _ hv))
def qj{A:Around}{E:Value->Shared->Prop}{s:Shared}{n:Nat}{a:Addr}{o:Obj}{vs:List Value}{m:Nat}{Q:Bool->Shared->Prop}(h1:s.heap.get? a=some o)(h2:o.cls=.type "tuple")(h3:o.data=.seq vs.toArray m)(h:∀ v∈vs,∀ Q':Bool->Shared->Prop,Q' true s->wpAny (model prog w) A (eqIsQuiet n v) Q' E s)(q:Q true s):wpAny (model prog w) A (eqIsQuiet (n+1) (.ref a)) Q E s:=by
 have ty:s.TypeIs (.ref a) "tuple":=⟨o,h1,h2⟩;rw [eqIsQuiet.eq_def];refine My (Ub ty PySem.F.slot_tuple_eq.lookup ?_);refine My (U7 ty isSubtype_tuple_tuple ?_);rw [RH (by decide)];refine My (RM h1 h3 ?_);refine My ?_;rw [←Array.forIn_toList];exact tm h (Ri q)
def CN{A:Around}{E:Value->Shared->Prop}{s:Shared}{k:PKy}{a:Addr}{Q:Bool->Shared->Prop}(hk:pC prog w s.heap k a)(q:Q true s):wpAny (model prog w) A (eqIsQuiet 8 (.ref a)) Q E s:=by
 obtain⟨o,u,v,n,h1,h2,h3,h4,h5⟩:=hk
 have one:∀ {xs:List Int} {b:Addr},IsTupleKey (intKind prog w) s.heap xs b->∀ Q':Bool->Shared->Prop,Q' true s->wpAny (model prog w) A (eqIsQuiet 7 (.ref b)) Q' E s:=by
  intro xs b hb Q' q';obtain⟨o,its,n,g1,g2,g3,g4⟩:=hb;refine qj (vs:=its.toList) g1 g2 g3 (λ v hv aX aS=>?_) q';rw [eqIsQuiet_byValue _ (g4.byValue v hv)];exact Ri aS
 refine qj (vs:=[.ref u,.ref v]) h1 h2 h3 (λ y hy Q' q'=>?_) q;simp only [Rz,Rv,RV] at hy
 rcases hy with rfl|rfl
 ·exact one h4 Q' q'
 ·exact one h5 Q' q'
def jS(prog:Program)(w:World):HeapKind prog w PKy where
 is:=pC prog w
 hash:=uo prog w
 draws k:=(k.1.length+1)+(k.2.length+1)+1
 room A:=A.units+2 < cLine
 inj:=pC.inj
 keeps:=pC.keeps
 pyHash:=λ hr hk q=>Hg (by omega) hk q
 eqBool:=λ hr hx hy q=>OC hr hx hy q
 quiet:=λ hk q=>CN hk q
end
def QI(P:Program)(w:World)(a:Addr)(xs:List (PKy × Addr × Value))(h:Heap):Prop:=∃ o es ep,h.get? a=some o/\o.ExactDict/\o.data=.dict es ep/\es.toList=xs.map (entryOfKey (jS P w))/\(xs.map (·.1)).Nodup
def dPo(P:Program)(w:World)(a:Addr)(xs:List (PKy × Addr × Value)):HO:=.ext (QI P w a xs)
def PKV(H:Hp)(k:PKy)(b:Addr):Prop:=∃ u v,H b=some (.tup [.ref u,.ref v])/\H u=some (.tup (k.1.map V.int))/\H v=some (.tup (k.2.map V.int))
def pH(P:Program)(w:World)(H:Hp)(d:Addr)(Z:List PKy):Prop:=∃ xs,H d=some (dPo P w d xs)/\(d == sysModules)=false/\xs.length<=Z.length/\(∀ x∈xs,PKV H x.1 x.2.1)/\∀ k,(atKey xs k).isSome=decide (k∈Z)
def PKV.ext{H H':Hp}{k:PKy}{b:Addr}(h:PKV H k b)(e:Ext H H'):PKV H' k b:=by
 obtain⟨u,v,h1,h2,h3⟩:=h;exact⟨u,v,e.at h1,e.at h2,e.at h3⟩
def PKV.upd{H:Hp}{k:PKy}{b d:Addr}{φ:Heap->Prop}{o:HO}(h:PKV H k b)(hd:H d=some (.ext φ)):PKV (upd H d o) k b:=by
 obtain⟨u,v,h1,h2,h3⟩:=h;exact⟨u,v,by rw [ah (λ z=>by rw [z,hd] at h1;cases h1)];exact h1,by rw [ah (λ z=>by rw [z,hd] at h2;cases h2)];exact h2,by rw [ah (λ z=>by rw [z,hd] at h3;cases h3)];exact h3⟩
def pH.ext{P:Program}{w:World}{H H':Hp}{d:Addr}{Z:List PKy}(h:pH P w H d Z)(e:Ext H H'):pH P w H' d Z:=by
 obtain⟨xs,h1,h2,h3,h4,h5⟩:=h;exact⟨xs,e.at h1,h2,h3,λ x hx=>(h4 x hx).ext e,h5⟩
def uT{P:Program}{w:World}:∀ {ks:List Int}{us:List Value},aU (ks.map V.int) us->ItemsAre (intKind P w) ks us
 | [],_,r=>by rw [Vg] at r;cases r;exact .nil
 | k::ks,_,r=>by
  rw [Sh] at r
  cases r with
  | cons h t=>
   obtain⟨tk,e⟩:=(show ∃ t,_=Value.int k t from h);subst e;exact .cons (intKind_is P w k tk) (uT t)
section
variable {P:Program}{w:World}{H:Hp}{h:Heap}{a:Addr}
def J3{ks:List Int}(ok:HOk P w H h)(e:H a=some (.tup (ks.map V.int))):IsTupleKey (intKind P w) h ks a:=by
 obtain⟨_,its,r,o,h1,h2,n,h3⟩:=(show bW P w H h a (.tup (ks.map V.int)) from ok a _ e);exact⟨o,its.toArray,n,h1,h2,h3,by simpa using uT r⟩
def FX{k:PKy}(ok:HOk P w H h)(e:PKV H k a):pC P w h k a:=by
 obtain⟨u,v,h1,h2,h3⟩:=e;obtain⟨_,its,r,o,g1,g2,n,g3⟩:=(show bW P w H h a (.tup [.ref u,.ref v]) from ok a _ h1)
 cases r with
 | cons r1 t1=>cases t1 with
  | cons r2 t2=>cases t2 with
   | nil=>
    cases (show _=Value.ref u from r1);cases (show _=Value.ref v from r2);exact⟨o,u,v,n,g1,g2,g3,J3 ok h2,J3 ok h3⟩
def Kt{xs:List (PKy × Addr × Value)}(ok:HOk P w H h)(e:H a=some (dPo P w a xs))(hk:∀ x∈xs,PKV H x.1 x.2.1):h.DictOfH (jS P w) a xs:=by
 obtain⟨⟨o,es,ep,h1,h2,h3,h4,h5⟩,_⟩:=(show bW P w H h a (dPo P w a xs) from ok a _ e);exact⟨o,es,ep,h1,h2,h3,h4,λ x hx=>FX ok (hk x hx),h5⟩
end
section
variable {X:Cx}{pins:List (Addr × Obj)}{σ:St}{H:Hp}{s:Shared}{d b:Addr}{k:PKy}{Z:List PKy}{A:Around}{E:Value->Shared->Prop}
def QR{Q:Value->Shared->Prop}(hu:A.units+64 < cLine)(I:Inv X pins σ H s)(g:pH X.prog X.w H d Z)(hk:PKV H k b)(h:∀ s',Inv X pins σ H s'->Q (.bool (decide (k∈Z))) s'):wpAny (model X.prog X.w) A (compareOp .In (.ref b) (.ref d)) Q E s:=by
 obtain⟨xs,h1,h2,h3,h4,h5⟩:=g;refine wpAny_in_heap (knd:=jS X.prog X.w) (show A.units+1+2 < cLine by omega) (FX I.hok hk) h2 (Kt I.hok h1 h4) ?_;rw [h5];exact h _ (I.tok _)
def sS{xs:List (PKy × Addr × Value)}{j:PKy}:(atKey xs j).isSome=true ↔ ∃ x∈xs,x.1=j:=by
 unfold atKey;rw [Option.isSome_map,List.find?_isSome];simp
def mI{xs:List (PKy × Addr × Value)}{v:Value}:∀ x∈storedH xs k b v,(∃ y∈xs,x.1=y.1/\x.2.1=y.2.1)\/(x.1=k/\x.2.1=b):=by
 intro x hx;unfold storedH at hx;split at hx
 ·obtain⟨y,hy,rfl⟩:=List.mem_map.mp hx;refine .inl ⟨y,hy,?_⟩;unfold putAt
  split<;>exact⟨rfl,rfl⟩
 ·rcases RQ.mp hx with h|h
  ·exact .inl ⟨x,h,rfl,rfl⟩
  ·rw [Rg.mp h];exact .inr ⟨rfl,rfl⟩
def BL{xs:List (PKy × Addr × Value)}{v:Value}(j:PKy):(atKey (storedH xs k b v) j).isSome=(decide (j=k) || (atKey xs j).isSome):=by
 apply SE.mpr;rw [U1,S8,sS,sS];constructor
 ·rintro ⟨x,hx,rfl⟩
  rcases mI x hx with ⟨y,hy,e,_⟩|⟨e,_⟩
  ·exact .inr ⟨y,hy,e.symm⟩
  ·exact .inl e
 ·intro h;unfold storedH;split
  ·rename_i hk;rw [sS] at hk
   have h':∃ x∈xs,x.1=j:=by
    rcases h with rfl|h
    ·exact hk
    ·exact h
   obtain⟨x,hx,rfl⟩:=h';refine⟨_,List.mem_map.mpr ⟨x,hx,rfl⟩,?_⟩;unfold putAt
   split<;>rfl
  ·rcases h with rfl|⟨x,hx,e⟩
   ·exact⟨_,RG _ (Rg.mpr rfl),rfl⟩
   ·exact⟨x,RB _ hx,e⟩
def vQ{xs:List (PKy × Addr × Value)}{v:Value}:(storedH xs k b v).length<=xs.length+1:=by
 unfold storedH;split
 ·rw [Rh];omega
 ·rw [RI];exact Rl _
def OF{r:Value}{Q:Unit->Shared->Prop}(hu:A.units+64 < cLine)(I:Inv X pins σ H s)(g:pH X.prog X.w H d Z)(hk:PKV H k b)(hz:Z.length<=sizeLine)
  (h:∀ (o:HO) (s':Shared),pH X.prog X.w (upd H d o) d (k::Z)->Inv X pins σ (upd H d o) s'->Q () s'):wpAny (model X.prog X.w) A (setItem (.ref d) (.ref b) r) Q E s:=by
 obtain⟨xs,h1,h2,h3,h4,h5⟩:=g;refine wpAny_setItem_heap (knd:=jS X.prog X.w) (hsz:=by omega) (show A.units+1+2 < cLine by omega) (FX I.hok hk) (Kt I.hok h1 h4) λ h' dd hs=>?_;obtain⟨q,es,ep,hq,g2,g3,g4,_,g5⟩:=dd
 have aS:∀ x∈storedH xs k b r,PKV (upd H d (dPo X.prog X.w d (storedH xs k b r))) x.1 x.2.1:=λ x hx=>by
  rcases mI x hx with ⟨y,hy,e1,e2⟩|⟨e1,e2⟩
  ·rw [e1,e2];exact(h4 y hy).upd h1
  ·rw [e1,e2];exact hk.upd h1
 refine h (dPo X.prog X.w d (storedH xs k b r)) _ ⟨_,aq,h2,?_,aS,λ j=>?_⟩ (sR I (by rw [h1];exact True.intro) hs ⟨q,hq⟩ ?_)
 ·have:=vQ (xs:=xs) (k:=k) (b:=b) (v:=r);rw [Sy];omega
 ·rw [BL,h5,←Bool.decide_or];exact VB.mpr Rz.symm
 ·refine⟨⟨q,es,ep,hq,g2,g3,g4,g5⟩,⟨q,hq⟩,λ h1 h2 ⟨o,es,ep,a1,a2⟩ hk=>⟨o,es,ep,hk _ a1,a2⟩⟩
end
def P0(P:Program)(w:World):R2:=λ y x H Q=>∃ d b k Z,x=.ref d/\y=.ref b/\pH P w H d Z/\PKV H k b/\Q (.bl (decide (k∈Z))) H
def GG{P:Program}{w:World}{H:Hp}{d b:Addr}{k:PKy}{Z:List PKy}{Q:VK}(e:pH P w H d Z)(hk:PKV H k b)(q:Q (.bl (decide (k∈Z))) H):P0 P w (.ref b) (.ref d) H Q:=⟨d,b,k,Z,rfl,rfl,e,hk,q⟩
def P9(P:Program)(w:World)(H:Hp)(Q:VK):Prop:=∀ (p:Addr) (H':Hp),H p=none->Ext H H'->pH P w H' p []->Q (.ref p) H'
def Fj(P:Program)(w:World):TE:=λ _ H Q=>P9 P w H Q
def Dt(P:Program)(w:World)(σ:St)(H:Hp)(Q:VK):Fj P w σ H Q=P9 P w H Q:=rfl
def N4(P:Program)(w:World)(nx:St->Hp->Prop)(σ:St)(x:V):VK:=λ y H=>∃ d b k Z,x=.ref d/\y=.ref b/\pH P w H d Z/\PKV H k b/\Z.length<=sizeLine/\∀ o,pH P w (upd H d o) d (k::Z)->nx σ (upd H d o)
def N5(P:Program)(w:World)(ty:TE)(nx:St->Hp->Prop)(σ:St):VK:=λ x H=>ty σ H (N4 P w nx σ x)
def Mg(P:Program)(w:World)(ty:TE)(nx:St->Hp->Prop)(σ:St)(x:V)(H:Hp):N5 P w ty nx σ x H=ty σ H (N4 P w nx σ x):=rfl
def N6(P:Program)(w:World)(td ty:TE)(nx:St->Hp->Prop)(σ:St):VK:=λ _ H=>td σ H (N5 P w ty nx σ)
def Mh(P:Program)(w:World)(td ty:TE)(nx:St->Hp->Prop)(σ:St)(v:V)(H:Hp):N6 P w td ty nx σ v H=td σ H (N5 P w ty nx σ):=rfl
def Ke(P:Program)(w:World)(td ty tv:TE):TS:=λ D σ H=>tv σ H (N6 P w td ty D.nx σ)
def HR(P:Program)(w:World)(td ty tv:TE)(nx:St->Hp->Prop)(rt:VK)(bk ct:St->Hp->Prop)(σ:St)(H:Hp):Ke P w td ty tv ⟨nx,rt,bk,ct⟩ σ H=tv σ H (N6 P w td ty nx σ):=rfl
def KP{P:Program}{w:World}{H:Hp}{d b:Addr}{k:PKy}{Z:List PKy}{nx:St->Hp->Prop}{σ:St}(e:pH P w H d Z)(hk:PKV H k b)(hz:Z.length<=sizeLine)(q:∀ o,pH P w (upd H d o) d (k::Z)->nx σ (upd H d o)):N4 P w nx σ (.ref d) (.ref b) H:=⟨d,b,k,Z,rfl,rfl,e,hk,hz,q⟩
section
variable {X:Cx}
def Ln(hu:X.A.units+64 < cLine):OpR X (compareOp .In) (P0 X.prog X.w):=by
 intro pins s σ H x y v u Q I rx ry h;obtain⟨d,b,k,Z,rfl,rfl,g,hk,q⟩:=h;cases (show u=Value.ref d from ry);cases (show v=Value.ref b from rx);exact QR hu I g hk λ s3 I3=>⟨.bl (decide (k∈Z)),H,I3,rfl,q⟩
def zU{pos:Pos}:PE X (.Dict [] [] pos) (Fj X.prog X.w):=λ pins s σ H Q I h=>by
 have hn:=I.hok.fresh (Rl s.heap.objs.size);refine wpAny_Dict_empty ⟨.ref s.heap.objs.size,_,I.laid (a:=s.heap.objs.size) (o:=dPo X.prog X.w s.heap.objs.size []) (t':=s.toks) (λ _ _ q=>Rc _ q) (Rl _) ?_,rfl,h _ _ hn (Ext.new hn) ?_⟩
 ·exact⟨⟨_,#[],0,Rn _ rfl,⟨rfl,rfl,rfl⟩,rfl,rfl,TM⟩,⟨_,Rn _ rfl⟩,λ h1 h2 ⟨o,es,ep,a1,a2⟩ hk=>⟨o,es,ep,hk _ a1,a2⟩⟩
 ·exact⟨[],aq,Ta.mpr (Ru (RC I.big)),Rl _,λ x hx=>by (cases hx),λ k=>by rw [Ry Rv];rfl⟩
def Hd{td ty tv:TE}{o i value:Expr}{pos' pos:Pos}(hu:X.A.units+64 < cLine)(ho:PE X o td)(hi:PE X i ty)(hv:PE X value tv)(hs:swapsWith value (some (.Subscript o i pos')) pos.line X.env=pure false) :
  PS X (.Assign [.Subscript o i pos'] value pos) (Ke X.prog X.w td ty tv):=by
 intro pins s σ H D I h;refine wpAny_Assign_Subscript (thn (hv pins s σ H _ I h) λ r s1 ⟨v,H1,I1,rv,q1⟩=>thn (ho pins s1 σ H1 _ I1 q1) λ u s2 ⟨x,H2,I2,rx,q2⟩=>thn (hi pins s2 σ H2 _ I2 q2) λ iv s3 ⟨y,H3,I3,ry,d,b,k,Z,ex,ey,g,hk,hz,q3⟩=>?_) hs;subst ex ey;obtain rfl:u=Value.ref d:=rx;obtain rfl:iv=Value.ref b:=ry;exact OF hu I3 g hk hz λ o s4 kn I4=>⟨σ,_,I4,q3 o kn⟩
end
def fW{α:Type}(k:Int)(xs:List α):List α:=(sliceRange 0 (xs.length:Int) k).filterMap (xs[·]?)
def qe{α:Type}{k:Int}(hk:0 < k)(xs:List α):(fW k xs).length<=xs.length:=by
 refine Sj (List.length_filterMap_le _ _) (sliceRange_length_le _ _ _ _ (λ _=>⟨Vf _,Vf _⟩) λ h=>absurd hk h)
def zJ{α:Type}{k:Int}{xs:List α}{x:α}(h:x∈fW k xs):x∈xs:=by
 obtain⟨i,_,hi⟩:=Vl.mp h;exact Rx hi
def me{k:Int}(hk:0 < k)(its:List Value):slicePick its.toArray none none (some k)=(fW k its).toArray:=by
 unfold slicePick sliceBounds fW;simp only [Option.getD_some,size_toArray,show (k > 0) from hk,if_true,List.getElem?_toArray]
def NW(k:Int)(H:Hp)(Q:VK):List V->Prop:=λ xs=>iW (.lst (fW k xs)) H Q
def L5(k:Int)(H:Hp)(Q:VK)(xs:List V):NW k H Q xs=iW (.lst (fW k xs)) H Q:=rfl
def Nm(p:Addr)(Q:VK):VK:=λ x H=>match x with
 | .int k=>0 < k/\aH (aA H p) (NW k H Q)
 | _=>False
def L6(p:Addr)(Q:VK)(k:Int)(H:Hp):Nm p Q (.int k) H=(0 < k/\aH (aA H p) (NW k H Q)):=rfl
def Nn(ts:TE)(σ:St)(Q:VK):VK:=λ x H=>match x with
 | .ref p=>ts σ H (Nm p Q)
 | _=>False
def L7(ts:TE)(σ:St)(Q:VK)(p:Addr)(H:Hp):Nn ts σ Q (.ref p) H=ts σ H (Nm p Q):=rfl
def PJ(te ts:TE):TE:=λ σ H Q=>te σ H (Nn ts σ Q)
def LG(te ts:TE)(σ:St)(H:Hp)(Q:VK):PJ te ts σ H Q=te σ H (Nn ts σ Q):=rfl
def aU.pick{xs:List V}{us:List Value}(h:aU xs us):∀ is:List Nat,aU (is.filterMap (xs[·]?)) (is.filterMap (us[·]?))
 | []=>.nil
 | i::is=>by
  rw [Tn,Tn]
  cases hx:xs[i]? with
  | none=>rw [h.none_of hx];exact aU.pick h is
  | some x=>
   obtain⟨u,hu,r⟩:=h.get hx;rw [hu];exact .cons r (aU.pick h is)
def aU.step{k:Int}{xs:List V}{us:List Value}(h:aU xs us):aU (fW k xs) (fW k us):=by
 unfold fW;rw [h.length];exact h.pick _
section
variable {X:Cx}{e st:Expr}{te tst:TE}{pos p2:Pos}
def Hl(he:PE X e te)(hs:PE X st tst):PE X (.Subscript e (.Slice none none (some st) p2) pos) (PJ te tst):=by
 intro pins s σ H Q I h;refine Subscript_ (thn (he pins s σ H _ I h) λ v s1 ⟨x,H1,I1,r1,q1⟩=>?_);unfold Nn at q1;split at q1
 ·rename_i p;cases r1;refine wpAny_Slice ?_;rw [evalPart_none];refine wpAny_pure ?_;refine wpAny_pure ?_;rw [evalPart_some];refine thn (hs pins s1 σ H1 _ I1 q1) λ u s2 ⟨y,H2,I2,r2,q2⟩=>?_;unfold Nm at q2;split at q2
  ·rename_i k;obtain⟨hk,q3⟩:=q2;obtain⟨xs,ex,q⟩:=ai q3;replace ex:=bj ex;obtain⟨tk,rfl⟩:=r2;have I4:Inv X pins σ H2 { s2 with heap:=s2.heap.push { cls:=.type "slice",data:=.fields #[.none,.none,.int k tk] } }:=I2.kept (t':=s2.toks) λ b ob q=>Rc _ q
   show wpAny (model X.prog X.w) X.A (subscriptTail e (.Slice none none (some st) p2) (.ref p) (.ref s2.heap.objs.size)) (EP X pins σ Q) X.xe { s2 with heap:=s2.heap.push { cls:=.type "slice",data:=.fields #[.none,.none,.int k tk] } }
   obtain⟨its,r,ht,hz⟩:=I4.list (SqL.of ex);refine tail_any (ops:=[.ref p,.ref s2.heap.objs.size]) ht.isList.typeIs slot_list_getitem.lookup ?_ (by with_unfolding_all rfl);have hlen:=r.length;refine wpAny_getItem_list_slice (st:=some k) ht.isList (Heap.IsSliceOf.new ..) .none .none (.int k tk) (by simp;omega) ?_ (by rw [RJ]<;>omega);rw [me hk];have fr:=I4.hok.fresh (Rl (Heap.objs (s2.heap.push { cls:=.type "slice",data:=.fields #[.none,.none,.int k tk] })).size);refine⟨.ref (s2.heap.push { cls:=.type "slice",data:=.fields #[.none,.none,.int k tk] }).objs.size,_,I4.laid (t':=s2.toks) (o:=.lst (fW k xs)) (λ b ob q=>Rc _ q) (Rl _) ?_,rfl,q _ _ fr (Ext.new fr) aq⟩;exact⟨Sj (qe hk xs) hz,fW k its,0,r.step,Rn _ rfl⟩
  ·exact q2.elim
 ·exact q1.elim
end
end L2
namespace PH
def dA(ns:List Int):Prop:=ns.length<=8/\∀ n∈ns,1<=n/\n<=1000000000
def ae:List Int->Int
 | []=>1
 | n::r=>n * ae r
def fO:List Int->List Int
 | []=>[]
 | _::r=>ae r::fO r
def aj:List Int->Int->List Int
 | [],_=>[]
 | n::r,x=>x / ae r % n::aj r x
def aT:∀ ns ms:List Int,ae (ns++ms)=ae ns * ae ms
 | [],ms=>by simp [ae]
 | n::r,ms=>by simp only [U3,ae,aT r ms,TV]
def jk(ns:List Int)(i:Nat)(z:Int)(h:ns[i]? = some z):ae (ns.take (i+1))=ae (ns.take i) * z:=by
 rw [R7,h,aT];simp [ae]
def cW:∀ ns:List Int,(∀ n∈ns,1<=n/\n<=1000000000)->1<=ae ns/\ae ns<=1000000000 ^ ns.length
 | [],_=>by simp [ae]
 | n::r,h=>by
  obtain⟨h1,h2⟩:=cW r λ m hm=>h m (Ro _ hm);obtain⟨g1,g2⟩:=h n Rr;refine⟨?_,?_⟩
  ·show 1<=n * ae r
   exact Int.le_trans (by omega) (U9 g1 h1 (by decide) (by omega):1 * 1<=n * ae r)
  ·show n * ae r<=1000000000 ^ (r.length+1)
   rw [Int.pow_succ,SW];exact U9 h2 g2 (by omega) (Int.le_trans (by omega) h2)
def Hf:∀ {k:Nat},k<=8->(1000000000:Int) ^ k<=1000000000 ^ 8
 | 0,_=>by decide
 | 1,_=>by decide
 | 2,_=>by decide
 | 3,_=>by decide
 | 4,_=>by decide
 | 5,_=>by decide
 | 6,_=>by decide
 | 7,_=>by decide
 | 8,_=>by decide
 | k+9,h=>by omega
def dA.prod{ns:List Int}(h:dA ns):1<=ae ns/\ae ns<=1000000000 ^ 8:=by
 obtain⟨a,b⟩:=cW ns h.2;exact⟨a,Int.le_trans b (Hf h.1)⟩
def dA.take{ns:List Int}(h:dA ns)(i:Nat):dA (ns.take i):=⟨by have:=h.1;simp;omega,λ n hn=>h.2 n (Sk hn)⟩
def dA.drop{ns:List Int}(h:dA ns)(i:Nat):dA (ns.drop i):=⟨by have:=h.1;simp;omega,λ n hn=>h.2 n (Tt hn)⟩
def kZ(ns:List Int)(i:Nat)(z:Int)(hi:i < ns.length)(h:ns[ns.length - 1 - i]? = some z):ns.drop (ns.length - (i+1))=z::ns.drop (ns.length - i):=by
 have e:ns.length - (i+1)=ns.length - 1 - i:=by omega
 have e2:ns.length - i=ns.length - 1 - i+1:=by omega
 rw [e,e2];obtain⟨hl,hz⟩:=Rf.mp h;rw [←hz];exact Tz hl
def mM(ns:List Int)(i:Nat)(z:Int)(hi:i < ns.length)(h:ns[ns.length - 1 - i]? = some z):ae (ns.drop (ns.length - (i+1)))=ae (ns.drop (ns.length - i)) * z:=by
 rw [kZ ns i z hi h];exact SW _ _
def tE(ns:List Int)(i:Nat)(z:Int)(hi:i < ns.length)(h:ns[ns.length - 1 - i]? = some z):(fO (ns.drop (ns.length - (i+1)))).reverse=(fO (ns.drop (ns.length - i))).reverse++[ae (ns.drop (ns.length - i))]:=by
 rw [kZ ns i z hi h];simp [fO]
def sY(ns:List Int)(x:Int)(i:Nat)(z:Int)(hi:i < ns.length)(h:ns[ns.length - 1 - i]? = some z):(aj (ns.drop (ns.length - (i+1))) x).reverse=(aj (ns.drop (ns.length - i)) x).reverse++[x / ae (ns.drop (ns.length - i)) % z]:=by
 rw [kZ ns i z hi h];simp [aj]
def AV(ns:List Int)(x:Int)(i:Nat)(z:Int)(hi:i < ns.length)(h:ns[ns.length - 1 - i]? = some z)(hz:0<=ae (ns.drop (ns.length - i))):x / ae (ns.drop (ns.length - (i+1)))=x / ae (ns.drop (ns.length - i)) / z:=by
 rw [mM ns i z hi h];exact(TX hz).symm
def mN:∀ ns:List Int,(fO ns).length=ns.length
 | []=>rfl
 | _::r=>by simp [fO,mN r]
def bo:∀ (ns:List Int) (x:Int),(aj ns x).length=ns.length
 | [],_=>rfl
 | _::r,x=>by simp [aj,bo r x]
def InR:List Int->List Int->Prop
 | [],[]=>True
 | n::r,x::xs=>(0<=x/\x < n)/\InR r xs
 | _,_=>False
def dQ:List Int->List Int->Int
 | _::r,x::xs=>x * ae r+dQ r xs
 | _,_=>0
def eZ:∀ ns xs:List Int,(∀ n∈ns,1<=n/\n<=1000000000)->InR ns xs->0<=dQ ns xs/\dQ ns xs < ae ns
 | [],[],_,_=>by simp [dQ,ae]
 | [],_::_,_,h=>h.elim
 | _::_,[],_,h=>h.elim
 | n::r,x::xs,hs,⟨⟨h0,h1⟩,h⟩=>by
  obtain⟨a,b⟩:=eZ r xs (λ m hm=>hs m (Ro _ hm)) h;have hp:=(cW r λ m hm=>hs m (Ro _ hm)).1;refine⟨?_,?_⟩
  ·show 0<=x * ae r+dQ r xs
   have:=UD h0 (show 0<=ae r by omega);omega
  ·show x * ae r+dQ r xs < n * ae r
   have:=R5 (show x+1<=n by omega) (show 0<=ae r by omega);rw [VS,Int.one_mul] at this;omega
def mJ:∀ ns xs:List Int,(∀ n∈ns,1<=n/\n<=1000000000)->InR ns xs->∀ c,aj ns (c * ae ns+dQ ns xs)=xs
 | [],[],_,_,_=>rfl
 | [],_::_,_,h,_=>h.elim
 | _::_,[],_,h,_=>h.elim
 | n::r,x::xs,hs,⟨⟨h0,h1⟩,h⟩,c=>by
  have aS:=λ m hm=>hs m (Ro n hm);obtain⟨a,b⟩:=eZ r xs aS h;have hp:=(cW r aS).1
  have e:c * (n * ae r)+(x * ae r+dQ r xs)=(c * n+x) * ae r+dQ r xs:=by
   rw [VS,TV];omega
  show (c * (n * ae r)+(x * ae r+dQ r xs)) / ae r % n::aj r (c * (n * ae r)+(x * ae r+dQ r xs))=x::xs
  rw [e,mJ r xs aS h]
  have e2:((c * n+x) * ae r+dQ r xs) / ae r=c * n+x:=by
   rw [Int.add_comm,Int.add_mul_ediv_right _ _ (by omega),Int.ediv_eq_zero_of_lt a b,RZ]
  have e3:(c * n+x) % n=x:=by
   rw [Int.add_comm,VR,S9 h0 h1]
  rw [e2,e3]
def dG(ns xs:List Int)(hs:∀ n∈ns,1<=n/\n<=1000000000)(h:InR ns xs):aj ns (dQ ns xs)=xs:=by
 have:=mJ ns xs hs h 0
 rwa [VA,RZ] at this
def InR.len:∀ {ns xs:List Int},InR ns xs->xs.length=ns.length
 | [],[],_=>rfl
 | [],_::_,h=>h.elim
 | _::_,[],h=>h.elim
 | _::r,_::xs,⟨_,h⟩=>by simp [InR.len h]
def InR.split:∀ (ns:List Int) (x:Int),(∀ n∈ns,1<=n/\n<=1000000000)->InR ns (aj ns x)
 | [],_,_=>trivial
 | n::r,x,hs=>⟨⟨UZ _ (by have:=hs n Rr;omega),Uz _ (by have:=hs n Rr;omega)⟩,InR.split r x λ m hm=>hs m (Ro _ hm)⟩
def InR.zeros:∀ r:List Int,(∀ n∈r,1<=n/\n<=1000000000)->InR r (r.map λ _=>0)
 | [],_=>trivial
 | n::r,h=>⟨⟨Vf 0,(by have:=h n Rr;show (0:Int) < n;omega)⟩,InR.zeros r λ m hm=>h m (Ro _ hm)⟩
open PySem L2
def vi:V->Int
 | .int i=>i
 | _=>0
def gb(x:V)(b:Int):Bool:=match x with
 | .int i=>decide (0<=i) && decide (i < b)
 | _=>false
def gc(H:Hp)(x:V):Prop:=(isW H x).isSome=true/\∀ q xs,x=.ref q->H q=some (.tup xs)->∀ y∈xs,(isW H y).isSome=true
def j9(ns:List Int):Option HO->Bool
 | some (.tup xs)=>decide (xs.length=ns.length) && (xs.zip ns).all (λ p=>gb p.1 p.2)
 | _=>false
def dU(ns:List Int)(x:V)(H:Hp):Bool:=match x with
 | .ref q=>j9 ns (H q)
 | _=>false
def sO{H H':Hp}(e:Ext H H'){x:V}{b:Bool}(h:isW H x=some b):isW H' x=some b:=by
 cases x with
 | ref p=>
  obtain⟨_,o,ho,_⟩:=jb h;rw [jU,ho] at h;rw [jU,e.at ho];exact h
 | _=>exact h
def gc.ext{H H':Hp}{x:V}(h:gc H x)(e:Ext H H'):gc H' x:=by
 obtain⟨b,hb⟩:=Sv.mp h.1;refine⟨by rw [sO e hb];rfl,λ q xs hx hq y hy=>?_⟩;subst hx;obtain⟨_,o,ho,_⟩:=jb hb;have e2:=e.at ho;rw [hq] at e2;cases e2;obtain⟨c,hc⟩:=Sv.mp (h.2 q xs rfl ho y hy);rw [sO e hc];rfl
def gi{H:Hp}{q:Addr}{xs:List Int}(h:H q=some (.tup (xs.map V.int))):gc H (.ref q):=by
 refine⟨by rw [jU,h];rfl,λ q' ys e hy y hm=>?_⟩;cases e;rw [h] at hy;cases hy;obtain⟨i,_,rfl⟩:=Rj.mp hm;rfl
def jl{H H':Hp}(e:Ext H H'){ns:List Int}{x:V}(h:(isW H x).isSome=true):dU ns x H'=dU ns x H:=by
 cases x with
 | ref p=>
  obtain⟨b,hb⟩:=Sv.mp h;obtain⟨_,o,ho,_⟩:=jb hb
  show j9 ns (H' p)=j9 ns (H p)
  rw [ho,e.at ho]
 | _=>rfl
def Fu:∀ {ns ys:List Int},InR ns ys->((ys.map V.int).zip ns).all (λ p=>gb p.1 p.2)=true
 | [],[],_=>rfl
 | [],_::_,h=>h.elim
 | _::_,[],h=>h.elim
 | n::ns,y::ys,⟨h,k⟩=>by
  simp only [Sh,TU,all_cons,Fu k,UL]
  show (decide (0<=y) && decide (y < n))=true
  simp [h.1,h.2]
def gf{ns ys:List Int}{q:Addr}{H:Hp}(h:H q=some (.tup (ys.map V.int)))(hy:InR ns ys):dU ns (.ref q) H=true:=by
 show j9 ns (H q)=true
 rw [h]
 show (decide _ && _)=true
 rw [Fu hy,UL,S8,Rh,hy.len]
def PD:∀ (xs:List V) (ns:List Int),xs.zip (ns.map V.int)=(xs.zip ns).map λ p=>(p.1,V.int p.2)
 | [],_=>rfl
 | _::_,[]=>rfl
 | x::xs,n::ns=>by simp [PD xs ns]
def ix{α:Type}(l:List α):(l.filter λ _=>true)=l:=List.filter_eq_self.mpr λ _ _=>rfl
def Fl:∀ (ys ps:List Int),(((ys.map V.int).zip (ps.map V.int)).filter λ _=>true).map (λ z=>V.int (vi z.1 * vi z.2))=(List.zipWith (λ x p=>x * p) ys ps).map V.int
 | [],_=>rfl
 | _::_,[]=>rfl
 | y::ys,p::ps=>by
  have ih:=Fl ys ps;rw [ix] at ih ⊢;simp only [Sh,TU,SN,ih];rfl
def aN(a:Int × Int):Int × Int:=(a.1,if a.1 > 1 then a.2 else 0)
def axL(axs:List (Int × Int)):List (List Int):=axs.map λ a=>[a.1,a.2]
def bw(axs:List (Int × Int)):Int:=(axs.map λ a=>min 0 ((a.1 - 1) * a.2)).sum
def aY(axs:List (Int × Int)):Int:=(axs.map λ a=>max 0 ((a.1 - 1) * a.2)).sum
def fM(axs:List (Int × Int)):Prop:=axs.length<=8/\∀ a∈axs,1<=a.1/\a.1<=1000000000
structure uB(room first:Int)(axs:List (Int × Int)):Prop where
 ax:fM axs
 r1:1<=room
 r2:room<=1000000000000000000
 lo:0<=first+bw (axs.map aN)
 hi:first+aY (axs.map aN) < room
def fM.kept{axs:List (Int × Int)}(h:fM axs):fM (axs.map aN):=⟨by rw [Rh];exact h.1,λ a ha=>by
 obtain⟨b,hb,rfl⟩:=Rj.mp ha;exact h.2 b hb⟩
def fM.sizes{axs:List (Int × Int)}(h:fM axs):dA (axs.map λ a=>a.1):=⟨by rw [Rh];exact h.1,λ n hn=>by
 obtain⟨b,hb,rfl⟩:=Rj.mp hn;exact h.2 b hb⟩
def fT(room first:Int)(l:Addr):List (Str × V):=fV "axes" (.ref l) (fV "first" (.int first) (fV "room" (.int room) []))
def OL:¬ (("room":Str) = "axes"):=by decide +kernel
def OK:¬ (("room":Str) = "first"):=by decide +kernel
def ON:¬ (("first":Str) = "axes"):=by decide +kernel
def eU(room first:Int)(l:Addr):(fT room first l).lookup ("room":Str)=some (.int room):=by
 unfold fT;rw [aI,if_neg OL,aI,if_neg OK,aI,if_pos rfl]
def fh(room first:Int)(l:Addr):(fT room first l).lookup ("first":Str)=some (.int first):=by
 unfold fT;rw [aI,if_neg ON,aI,if_pos rfl]
def cJ(room first:Int)(l:Addr):(fT room first l).lookup ("axes":Str)=some (.ref l):=by
 unfold fT;rw [aI,if_pos rfl]
def Cm(room first:Int)(l:Addr){m:Str}(h1:¬ m = "axes")(h2:¬ m = "first")(h3:¬ m = "room"):(fT room first l).lookup m=none:=by
 unfold fT;rw [aI,if_neg h1,aI,if_neg h2,aI,if_neg h3];rfl
def bJ:∀ ns:List Int,(∀ n∈ns,(1:Int)<=n)->1<=ae ns
 | [],_=>by simp [ae]
 | n::ns,h=>by
  have h1:=h n Rr;have h2:=bJ ns λ m hm=>h m (Ro _ hm)
  show 1<=n * ae ns
  have:=U9 h1 h2 (by decide) (by omega);omega
def dI(a:Int × Int)(l:List (Int × Int)):bw (a::l)=min 0 ((a.1 - 1) * a.2)+bw l:=by unfold bw;simp
def dJ(a:Int × Int)(l:List (Int × Int)):aY (a::l)=max 0 ((a.1 - 1) * a.2)+aY l:=by unfold aY;simp
def gB(xs ps:List Int):Int:=(List.zipWith (λ x p=>x * p) xs ps).sum
def tJ{x p s:Int}(h0:0<=x)(h1:x<=s - 1):min 0 ((s - 1) * p)<=x * p/\x * p<=max 0 ((s - 1) * p):=by
 rcases Int.le_total 0 p with hp|hp
 ·have a:=UD h0 hp;have b:=R5 h1 hp;omega
 ·have a:=UD h0 (show 0<=-p by omega);have b:=R5 h1 (show 0<=-p by omega);rw [VQ] at a b;rw [VQ] at b;omega
def fw:∀ (axs:List (Int × Int)) (xs:List Int),InR (axs.map λ a=>a.1) xs->bw axs<=gB xs (axs.map λ a=>a.2)/\gB xs (axs.map λ a=>a.2)<=aY axs
 | [],[],_=>by decide
 | [],_::_,h=>h.elim
 | _::_,[],h=>h.elim
 | a::r,x::xs,⟨⟨h0,h1⟩,h⟩=>by
  obtain⟨b1,b2⟩:=fw r xs h
  have e:gB (x::xs) ((a::r).map λ a=>a.2)=x * a.2+gB xs (r.map λ a=>a.2):=by
   unfold gB;rw [map_cons,zipWith_cons_cons,sum_cons]
  rw [dI,dJ,e];have aS:x < a.1:=h1;obtain⟨c1,c2⟩:=tJ (p:=a.2) h0 (show x<=a.1 - 1 by omega);omega
def InR.bound:∀ {ns ys:List Int},dA ns->InR ns ys->∀ a∈ys,0<=a/\a < 1000000000:=λ {ns ys} hs hy=>by
 have:∀ {ns ys:List Int},(∀ n∈ns,1<=n/\n<=1000000000)->InR ns ys->∀ a∈ys,0<=a/\a < 1000000000:=by
  intro ns
  induction ns with
  | nil=>intro ys _ h a ha;cases ys with
   | nil=>cases ha
   | cons _ _=>exact h.elim
  | cons n r ih=>intro ys hs h a ha;cases ys with
   | nil=>exact h.elim
   | cons y ys=>
    have hn:=hs n Rr;have hy:0<=y/\y < n:=h.1
    rcases Rz.mp ha with rfl|ha
    ·omega
    ·exact ih (λ m hm=>hs m (Ro _ hm)) h.2 a ha
 exact this hs.2 hy
def fJ(ns:List Int)(h:∀ n∈ns,(1:Int)<=n)(i:Nat):ae (ns.take i)<=ae ns:=by
 have e:ae ns=ae (ns.take i) * ae (ns.drop i):=by rw [←aT,UX]
 have a:=bJ (ns.take i) λ n hn=>h n (Sk hn);have b:=bJ (ns.drop i) λ n hn=>h n (Tt hn);rw [e];have:=Td b (show 0<=ae (ns.take i) by omega);omega
def bG(cs:List Int)(a:Int × Int):List Int:=cs.flatMap λ c=>(List.range a.1.toNat).map λ (n:Nat)=>c+(n:Int) * a.2
def af(first:Int)(axs:List (Int × Int)):List Int:=axs.foldl bG [first]
def ku(cs:List Int)(a:Int × Int):(bG cs a).length=cs.length * a.1.toNat:=by
 unfold bG
 induction cs with
 | nil=>simp
 | cons c r ih=>rw [T9,RI,ih,Rh,RL,Sy,Nat.add_mul];omega
def lH(first:Int)(axs:List (Int × Int))(a:Int × Int):af first (axs++[a])=bG (af first axs) a:=by
 unfold af;rw [foldl_append];rfl
def qy:∀ (axs:List (Int × Int)) (cs:List Int),(∀ a∈axs,(1:Int)<=a.1)->((axs.foldl bG cs).length:Int)=cs.length * ae (axs.map λ a=>a.1)
 | [],cs,_=>by simp [ae]
 | a::r,cs,h=>by
  have ha:=h a Rr;rw [Tj,qy r (bG cs a) λ b hb=>h b (Ro _ hb),ku,Uu,Sb (by omega),TV];rfl
def aB(first:Int)(axs:List (Int × Int))(h:∀ a∈axs,(1:Int)<=a.1):((af first axs).length:Int)=ae (axs.map λ a=>a.1):=by
 unfold af;rw [qy axs [first] h];simp
def qx:∀ (axs:List (Int × Int)) (cs:List Int) (M:Int),M∈axs.foldl bG cs ↔ ∃ c∈cs,∃ xs,InR (axs.map λ a=>a.1) xs/\M=c+gB xs (axs.map λ a=>a.2)
 | [],cs,M=>by
  refine⟨λ h=>⟨M,h,[],trivial,by simp [gB]⟩,λ ⟨c,hc,xs,hx,e⟩=>?_⟩
  match xs,hx with
  | [],_=>rw [e];simpa [gB] using hc
 | a::r,cs,M=>by
  rw [Tj,qx r (bG cs a) M]
  have de:∀ (x:Int) (xs:List Int),gB (x::xs) ((a::r).map λ a=>a.2)=x * a.2+gB xs (r.map λ a=>a.2):=λ x xs=>by
   unfold gB;rw [map_cons,zipWith_cons_cons,sum_cons]
  constructor
  ·rintro ⟨c,hc,xs,hx,e⟩;unfold bG at hc;obtain⟨c0,aS,aX⟩:=List.mem_flatMap.mp hc;obtain⟨n,hn,rfl⟩:=List.mem_map.mp aX;have a3:=List.mem_range.mp hn;refine⟨c0,aS,(n:Int)::xs,⟨⟨by omega,?_⟩,hx⟩,by rw [de,e];omega⟩
   show (n:Int) < a.1
   omega
  ·rintro ⟨c,hc,xs,hx,e⟩
   match xs,hx with
   | x::xs,⟨⟨h0,h1⟩,hx⟩=>
    have a4:x < a.1:=h1;refine⟨c+x * a.2,?_,xs,hx,by rw [e,de];omega⟩;unfold bG;refine List.mem_flatMap.mpr ⟨c,hc,List.mem_map.mpr ⟨x.toNat,List.mem_range.mpr (by omega),?_⟩⟩;rw [Int.toNat_of_nonneg h0]
def mV(first:Int)(axs:List (Int × Int))(M:Int):M∈af first axs ↔ ∃ xs,InR (axs.map λ a=>a.1) xs/\M=first+gB xs (axs.map λ a=>a.2):=by
 unfold af;rw [qx];refine⟨λ ⟨c,hc,xs,hx,e⟩=>⟨xs,hx,by rw [e,List.mem_singleton.mp hc]⟩,λ ⟨xs,hx,e⟩=>⟨first,List.mem_singleton.mpr rfl,xs,hx,e⟩⟩
def qr:∀ (ms xs:List Int) (n x:Int),ms.length=xs.length->dQ (ms++[n]) (xs++[x])=dQ ms xs * n+x
 | [],[],n,x,_=>by show x * ae []+dQ [] []=0 * n+x;simp [ae,dQ]
 | [],_::_,_,_,h=>by cases h
 | _::_,[],_,_,h=>by cases h
 | m::ms,y::xs,n,x,h=>by
  have ih:=qr ms xs n x (by simpa using h)
  show y * ae (ms++[n])+dQ (ms++[n]) (xs++[x])=(y * ae ms+dQ ms xs) * n+x
  rw [ih,aT,show ae [n]=n by simp [ae],VS,TV];omega
def bB(ns:List Int):List (List Int):=(List.range (ae ns).toNat).map λ i=>aj ns ((i:Nat):Int)
def lA:∀ (p:List Int) (n x:Int),0 < n->aj (p++[n]) x=aj p (x / n)++[x % n]
 | [],n,x,hn=>by simp [aj,ae]
 | m::p,n,x,hn=>by
  have ih:=lA p n x hn
  show x / ae (p++[n]) % m::aj (p++[n]) x=x / n / ae p % m::(aj p (x / n)++[x % n])
  rw [ih,aT,show ae [n]=n by simp [ae],SW,TX (by omega)]
def qi(b:Nat):∀ a:Nat,List.range (a * b)=(List.range a).flatMap λ j=>(List.range b).map λ k=>j * b+k
 | 0=>by simp
 | a+1=>by
  rw [Nat.succ_mul,List.range_add,qi b a,List.range_succ,Ut];simp
def mL(p:List Int)(n:Int)(hp:0<=ae p)(hn:0 < n):bB (p++[n])=(bB p).flatMap λ row=>(List.range n.toNat).map λ k=>row++[((k:Nat):Int)]:=by
 unfold bB
 have e:(ae (p++[n])).toNat=(ae p).toNat * n.toNat:=by
  rw [aT,show ae [n]=n by simp [ae]];obtain⟨a,ha⟩:=RF hp;obtain⟨b,hb⟩:=RF (show 0<=n by omega);rw [ha,hb];rfl
 rw [e,qi,List.map_flatMap,List.flatMap_map];congr 1;funext j;rw [Se];apply Vb;intro k hk;have aS:k < n.toNat:=by simpa using hk
 show aj (p++[n]) ((j * n.toNat+k:Nat):Int)=aj p (j:Nat)++[((k:Nat):Int)]
 rw [lA p n _ hn]
 have c:((j * n.toNat+k:Nat):Int)=(k:Int)+(j:Int) * n:=by
  push_cast
  rw [show ((n.toNat:Nat):Int)=n by omega];omega
 rw [c,Int.add_mul_ediv_right _ _ (by omega),Int.ediv_eq_zero_of_lt (by omega) (by omega),RZ,VR,S9 (by omega) (by omega)]
def eP(ns:List Int):(bB ns).length=(ae ns).toNat:=by simp [bB]
def lO(ns:List Int)(h:∀ n∈ns,1<=n/\n<=1000000000)(i:Nat):ae (ns.take i)<=ae ns:=by
 have e:ae ns=ae (ns.take i) * ae (ns.drop i):=by rw [←aT,UX]
 have a:=(cW (ns.take i) λ n hn=>h n (Sk hn)).1;have b:=(cW (ns.drop i) λ n hn=>h n (Tt hn)).1;rw [e];have:=Td b (show 0<=ae (ns.take i) by omega);omega
def pV(a:Int × Int)(h:1<=a.1):∀ (cs:List Int) (m:Nat),(bG cs a)[m]? = (cs[m / a.1.toNat]?).map λ c=>c+((m % a.1.toNat:Nat):Int) * a.2
 | [],m=>by simp [bG]
 | c::cs,m=>by
  have hs:0 < a.1.toNat:=by omega
  have e:bG (c::cs) a=((List.range a.1.toNat).map λ (n:Nat)=>c+(n:Int) * a.2)++bG cs a:=by unfold bG;rw [List.flatMap_cons]
  rw [e]
  by_cases hm:m < a.1.toNat
  ·rw [R8 (by rw [Rh,RL];exact hm),Rq,Us hm,Nat.div_eq_of_lt hm,Nat.mod_eq_of_lt hm];rfl
  ·rw [R1 (by rw [Rh,RL];omega),Rh,RL,pV a h cs (m - a.1.toNat)]
   have e1:m / a.1.toNat=(m - a.1.toNat) / a.1.toNat+1:=by
    have:=Nat.div_eq_sub_div hs (show a.1.toNat<=m by omega);exact this
   have e2:m % a.1.toNat=(m - a.1.toNat) % a.1.toNat:=Nat.mod_eq_sub_mod (by omega);rw [e1,e2,List.getElem?_cons_succ]
def qz:∀ (axs:List (Int × Int)) (cs:List Int) (k:Nat),(∀ a∈axs,(1:Int)<=a.1)->(axs.foldl bG cs)[k]? = (cs[((k:Int) / ae (axs.map λ a=>a.1)).toNat]?).map λ c=>c+gB (aj (axs.map λ a=>a.1) (k:Int)) (axs.map λ a=>a.2)
 | [],cs,k,_=>by
  show cs[k]? = (cs[((k:Int) / 1).toNat]?).map λ c=>c+0
  rw [Int.ediv_one,Rt];simp
 | a::r,cs,k,h=>by
  have ha:=h a Rr;have hr:=λ b hb=>h b (Ro a hb);have hp:1<=ae (r.map λ a=>a.1):=bJ _ λ n hn=>by obtain⟨b,hb,rfl⟩:=Rj.mp hn;exact hr b hb
  rw [Tj,qz r (bG cs a) k hr,pV a ha];generalize hP:ae (r.map λ a=>a.1)=P at hp;have aS:0<=(k:Int) / P:=Int.ediv_nonneg (by omega) (by omega)
  have e1:((k:Int) / P).toNat / a.1.toNat=((k:Int) / ae ((a::r).map λ a=>a.1)).toNat:=by
   show _=((k:Int) / (a.1 * ae (r.map λ a=>a.1))).toNat
   rw [hP,SW a.1 P,←TX (by omega)];generalize (k:Int) / P=m at aS;have hd:m / a.1=((m.toNat / a.1.toNat:Nat):Int):=by rw [Int.natCast_ediv,Sb aS,Sb (by omega)]
   rw [hd,Rt]
  have e2:((((k:Int) / P).toNat % a.1.toNat:Nat):Int)=(k:Int) / P % a.1:=by rw [Int.natCast_emod,Sb aS,Sb (by omega)]
  rw [e1,e2,Option.map_map];congr 1;funext c
  show c+(k:Int) / P % a.1 * a.2+gB (aj (r.map λ a=>a.1) (k:Int)) (r.map λ a=>a.2)=c+gB ((k:Int) / ae (r.map λ a=>a.1) % a.1::aj (r.map λ a=>a.1) (k:Int)) (a.2::r.map λ a=>a.2)
  unfold gB;rw [zipWith_cons_cons,sum_cons,hP];omega
def jq{first:Int}{axs:List (Int × Int)}{k:Nat}{c:Int}(h:∀ a∈axs,(1:Int)<=a.1)(hk:(af first axs)[k]? = some c):c=first+gB (aj (axs.map λ a=>a.1) (k:Int)) (axs.map λ a=>a.2):=by
 unfold af at hk;rw [qz axs [first] k h] at hk;obtain⟨c0,h1,h2⟩:=Option.map_eq_some_iff.mp hk;have:c0∈[first]:=mem_of_getElem? h1;rw [List.mem_singleton.mp this] at h2;exact h2.symm
def eQ:∀ (ns:List Int) (x:Int),(∀ n∈ns,(1:Int)<=n)->dQ ns (aj ns x)=x % ae ns
 | [],x,_=>by show 0=x % 1;rw [Int.emod_one]
 | n::r,x,h=>by
  have ih:=eQ r x λ m hm=>h m (Ro _ hm);have hp:=bJ r λ m hm=>h m (Ro _ hm)
  show x / ae r % n * ae r+dQ r (aj r x)=x % (n * ae r)
  rw [ih];generalize ae r=P at hp;have a:=U0 x (n * P);have b:=U0 x P;have c:=U0 (x / P) n;have d:x / P / n=x / (n * P):=by rw [TX (by omega),SW P n]
  rw [d] at c;have e1:n * P * (x / (n * P))=P * (n * (x / (n * P))):=by rw [SW n P,TV]
  have e2:P * (x / P)=P * (x / P % n)+P * (n * (x / (n * P))):=by rw [←Int.mul_add,c]
  have e3:x / P % n * P=P * (x / P % n):=SW _ _;omega
def p8{ns:List Int}{i j:Int}(h:∀ n∈ns,(1:Int)<=n)(i0:0<=i)(i1:i < ae ns)(j0:0<=j)(j1:j < ae ns)(e:aj ns i=aj ns j):i=j:=by
 have a:=eQ ns i h;have b:=eQ ns j h;rw [S9 i0 i1] at a;rw [S9 j0 j1] at b;rw [←a,←b,e]
def jX(W R:List Int->Int)(zs:List (List Int))(vals:List Int):List Int:=zs.foldl (λ vs z=>vs.set (W z).toNat (vs.getD (R z).toNat 0)) vals
def oq(W R:List Int->Int):∀ (zs:List (List Int)) (vals:List Int),(jX W R zs vals).length=vals.length
 | [],_=>rfl
 | z::zs,vals=>by
  show (jX W R zs _).length=_
  rw [oq W R zs,Th]
def zN{W R:List Int->Int}{zs:List (List Int)}{vals:List Int}{i:Nat}{z:List Int}(hz:zs[i]? = some z):jX W R (zs.take (i+1)) vals=(jX W R (zs.take i) vals).set (W z).toNat ((jX W R (zs.take i) vals).getD (R z).toNat 0):=by
 unfold jX;rw [take_add_one,hz,foldl_append];rfl
def InR.set:∀ {ms pl:List Int}{a:Nat}{v:Int},InR ms pl->0<=v->v < ms.getD a 0->InR ms (pl.set a v)
 | [],[],a,v,h,_,h1=>by simpa using h
 | [],_::_,_,_,h,_,_=>h.elim
 | _::_,[],_,_,h,_,_=>h.elim
 | m::ms,x::pl,0,v,h,h0,h1=>⟨⟨h0,h1⟩,h.2⟩
 | m::ms,x::pl,a+1,v,h,h0,h1=>⟨h.1,InR.set h.2 h0 (by simpa using h1)⟩
def EY(ms:List Int):Int:=(ms.map λ s=>s - 1).sum
def rT:List Int->List Int->Int
 | s::ms,p::ps=>(s - 1) * (p.natAbs:Int)+rT ms ps
 | _,_=>0
def JL{s p:Int}(hs:1<=s):max 0 ((s - 1) * p) - min 0 ((s - 1) * p)=(s - 1) * (p.natAbs:Int)/\0<=(s - 1) * (p.natAbs:Int):=by
 rcases Int.le_total 0 p with h|h
 ·have:=UD (show 0<=s - 1 by omega) h;rw [show (p.natAbs:Int)=p by omega];omega
 ·have:=UD (show 0<=s - 1 by omega) (show 0<=-p by omega);rw [VQ] at this;rw [show (p.natAbs:Int)=-p by omega,VQ];omega
def uI:∀ (ms ps:List Int),(∀ m∈ms,(1:Int)<=m)->ps.length=ms.length->aY (ms.zip ps) - bw (ms.zip ps)=rT ms ps/\bw (ms.zip ps)<=0/\0<=aY (ms.zip ps)/\0<=rT ms ps
 | [],[],_,_=>by decide
 | [],_::_,_,h=>by simp at h
 | _::_,[],_,h=>by simp at h
 | s::ms,p::ps,h,hl=>by
  obtain⟨i1,i2,i3,i4⟩:=uI ms ps (λ m hm=>h m (Ro _ hm)) (by simpa using hl);obtain⟨a1,a2⟩:=JL (p:=p) (h s Rr);rw [TU,dI,dJ]
  show _=(s - 1) * (p.natAbs:Int)+rT ms ps/\_/\_/\0<=(s - 1) * (p.natAbs:Int)+rT ms ps
  generalize (s - 1) * (p.natAbs:Int)=y at *;generalize (s - 1) * p=x at *;omega
def p9:∀ (ms ps:List Int) (B:Int),(∀ m∈ms,(1:Int)<=m)->ps.length=ms.length->(∀ p∈ps,(p.natAbs:Int)<=B)->0<=B->rT ms ps<=EY ms * B
 | [],[],B,_,_,_,_=>by show (0:Int)<=0 * B;omega
 | [],_::_,_,_,h,_,_=>by simp at h
 | _::_,[],_,_,h,_,_=>by simp at h
 | s::ms,p::ps,B,h,hl,hb,h0=>by
  have ih:=p9 ms ps B (λ m hm=>h m (mem_cons_of_mem _ hm)) (by simpa using hl) (λ q hq=>hb q (mem_cons_of_mem _ hq)) h0;have hs:=h s mem_cons_self;have hp:=hb p mem_cons_self;have m1:=Int.mul_le_mul_of_nonneg_left hp (show 0<=s - 1 by omega);have e:EY (s::ms)=(s - 1)+EY ms:=by unfold EY;rw [map_cons,sum_cons]
  show (s - 1) * (p.natAbs:Int)+rT ms ps<=_
  rw [e,VS];omega
def zK(s:Int)(ms:List Int):EY (s::ms)=(s - 1)+EY ms:=by unfold EY;rw [map_cons,sum_cons]
def yp{k:Int}(hk:0<=k):∀ ms:List Int,(∀ m∈ms,1<=m/\m<=k+1)->EY ms<=k * ms.length
 | [],_=>by show (0:Int)<=k * 0;omega
 | s::r,h=>by
  have ih:=yp hk r λ m hm=>h m (Ro _ hm);have hs:=h s Rr;rw [zK,Sy,show ((r.length+1:Nat):Int)=(r.length:Int)+1 by omega,Int.mul_add,Ve];omega
def top(i:Nat):Stmt:=PySem.Challenge.pw_pacehall_k75_whole_up_to_4096_places.main.body.getD i (.Pass ⟨0,0,0,0⟩)
abbrev eo:Stmt:=bV (top 9) 0
abbrev fQ:Stmt:=bV (top 10) 0
abbrev ji:Stmt:=top 12
local macro_rules | `(nofun) => `(by decide +kernel)
local macro_rules | `(∅) => `(⟨rfl,rfl,rfl,nofun,rfl,nofun,nofun⟩)
def w5:ag ["thing"] ["thing"] (aa ji):=∅
abbrev jj:Stmt:=top 15
def gP:ag ["sizes", "count", "size"] ["sizes"] (aa jj):=∅
abbrev jh:Stmt:=top 16
def eX:ag ["sizes", "paces", "pace", "size"] ["sizes"] (aa jh):=∅
abbrev cN:Stmt:=top 17
def jv:ag ["thing", "bound"] ["thing", "bound"] (aa cN):=∅
abbrev gG:Stmt:=top 18
def w6:ag ["sizes", "thing"] ["sizes", "thing"] (aa gG):=∅
abbrev eB:Stmt:=top 19
def bY:ag ["sizes", "number", "place", "left", "size"] ["sizes", "number"] (aa eB):=∅
abbrev jg:Stmt:=top 20
def w4:ag ["sizes", "number"] ["sizes", "number"] (aa jg):=∅
abbrev fD:Stmt:=top 21
def px:ag ["count"] ["count"] (aa fD):=∅
abbrev jP:Stmt:=top 22
def u7:ag ["sizes", "count"] ["sizes"] (aa jP):=∅
abbrev hJ:Stmt:=top 27
def ue:ag ["thing", "low", "high"] ["thing", "low", "high"] (aa hJ):=∅
abbrev kI:Stmt:=top 28
def BH:ag ["thing"] ["thing"] (aa kI):=∅
abbrev kK:Stmt:=top 29
def BJ:ag ["thing"] ["thing"] (aa kK):=∅
abbrev gH:Stmt:=top 30
def xa:ag ["thing"] ["thing"] (aa gH):=∅
abbrev hG:Stmt:=top 31
def ud:ag ["axis"] ["axis"] (aa hG):=∅
abbrev cC:Stmt:=bV (top 32) 0
def lV:ag ["self", "room", "first", "axes"] ["self", "room", "first", "axes"] (aa cC):=∅
abbrev ed:Stmt:=bV (top 32) 1
def rJ:ag ["self"] ["self"] (aa ed):=∅
abbrev ee:Stmt:=bV (top 32) 2
def rK:ag ["self"] ["self"] (aa ee):=∅
abbrev gq:Stmt:=bV (top 32) 3
def rM:ag ["self"] ["self"] (aa gq):=∅
abbrev fq:Stmt:=bV (top 32) 4
def ug:ag ["self", "place"] ["self", "place"] (aa fq):=∅
abbrev gr:Stmt:=bV (top 32) 6
def cX:ag ["self", "found", "size", "pace"] ["self"] (aa gr):=∅
abbrev ef:Stmt:=bV (top 32) 7
def rL:ag ["self"] ["self"] (aa ef):=∅
abbrev cB:Stmt:=bV (top 32) 8
def lU:ag ["self"] ["self"] (aa cB):=∅
abbrev iI:Stmt:=top 33
def lj:ag ["cells", "size", "pace", "found", "cell"] ["cells", "size", "pace"] (aa iI):=∅
abbrev i8:Stmt:=top 35
def yW:ag ["sizes", "room", "cells"] ["sizes", "room"] (aa i8):=∅
abbrev hU:Stmt:=top 36
def fA:ag ["view", "seen", "number", "cell"] ["view"] (aa hU):=∅
abbrev eD:Stmt:=top 37
def mm:ag ["one", "other"] ["one", "other"] (aa eD):=∅
abbrev kJ:Stmt:=top 39
def BI:ag ["thing", "many"] ["thing", "many"] (aa kJ):=∅
abbrev eV:Stmt:=top 40
def m4:ag ["sizes", "thing", "many"] ["sizes", "thing"] (aa eV):=∅
abbrev eE:Stmt:=top 41
def mn:ag ["sizes", "order"] ["sizes", "order"] (aa eE):=∅
abbrev bP:Stmt:=top 42
def gA:ag ["to", "source"] ["to", "source"] (aa bP):=∅
abbrev df:Stmt:=top 43
def b9:ag ["sizes", "order", "steps", "place", "loop", "step"] ["sizes", "order", "steps"] (aa df):=∅
abbrev gd:Stmt:=top 44
def qD:ag ["sizes", "order", "walk"] ["sizes", "order"] (aa gd):=∅
abbrev om:Stmt:=top 45
def oK:ag ["store", "to", "source", "order", "values", "place"] ["store", "to", "source", "order"] (aa om):=∅
abbrev eC:Stmt:=top 47
def gS:ag ["view", "found"] ["view"] (aa eC):=∅
abbrev bQ:Stmt:=top 48
def aM:ag ["to", "source", "spots", "found", "place", "cell", "origin"] ["to", "source", "spots"] (aa bQ):=∅
abbrev fF:Stmt:=top 49
def bT:ag ["to", "source", "spots", "written", "found", "place", "cell"] ["to", "source"] (aa fF):=∅
abbrev FQ:Stmt:=top 51
def Pu:ag ["pair", "axis"] ["pair", "axis"] (aa FQ):=∅
abbrev fE:Stmt:=top 52
def fL:ag ["pair", "order", "axis", "way"] ["pair", "order"] (aa fE):=∅
abbrev nE:Stmt:=top 53
def JF:ag ["to", "source", "order"] ["to", "source", "order"] (aa nE):=∅
abbrev cQ:Stmt:=top 54
def bZ:ag ["pairs", "many", "axis", "gaps", "low", "high"] ["pairs", "many"] (aa cQ):=∅
abbrev bO:Stmt:=top 55
def bp:ag ["pairs", "many", "chosen", "axis", "above", "below", "pair"] ["pairs", "many"] (aa bO):=∅
abbrev ck:Stmt:=top 56
def br:ag ["to", "source", "left", "many", "order", "loop", "used"] ["to", "source"] (aa ck):=∅
abbrev dN:Stmt:=top 57
def lT:ag ["thing", "sizes", "known"] ["thing", "sizes", "known"] (aa dN):=∅
abbrev fi:Stmt:=top 58
def lJ:ag ["pairs", "axis", "gaps"] ["pairs", "axis"] (aa fi):=∅
abbrev pM:Stmt:=top 59
def yh:ag ["to", "source", "some", "known", "pair"] ["to", "source", "some"] (aa pM):=∅
abbrev eF:Stmt:=top 61
def mq:ag ["view", "many"] ["view", "many"] (aa eF):=∅
abbrev dg:Stmt:=bV (top 62) 0
def jM:ag ["self", "values"] ["self", "values"] (aa dg):=∅
abbrev cD:Stmt:=bV (top 62) 1
def iU:ag ["self"] ["self"] (aa cD):=∅
abbrev cc:Stmt:=bV (top 62) 2
def ir:ag ["self", "view"] ["self", "view"] (aa cc):=∅
abbrev eh:Stmt:=bV (top 62) 3
def rN:ag ["self", "view"] ["self", "view"] (aa eh):=∅
abbrev ia:Stmt:=bV (top 62) 4
def iq:ag ["self", "view", "values", "cell", "value"] ["self", "view", "values"] (aa ia):=∅
abbrev eG:Stmt:=bV (top 62) 6
def mr:ag ["self", "to", "source"] ["self", "to", "source"] (aa eG):=∅
abbrev hV:Stmt:=top 64
def fC:ag ["_law_script", "_law_k", "_law_many", "_law_number_here", "_law_cell"] ["_law_script", "_law_k", "_law_many"] (aa hV):=∅
abbrev dY:Stmt:=top 66
def rH:ag ["_law_sizes", "_law_paces"] ["_law_sizes", "_law_paces"] (aa dY):=∅
abbrev fk:Stmt:=top 67
def uf:ag ["_law_sizes", "_law_paces"] ["_law_sizes", "_law_paces"] (aa fk):=∅
abbrev dZ:Stmt:=top 68
def bN:ag ["_law_first", "_law_sizes", "_law_paces", "_law_found", "_law_size", "_law_pace", "_law_longer", "_law_cell"] ["_law_first", "_law_sizes", "_law_paces"] (aa dZ):=∅
abbrev dr:Stmt:=top 69
def bU:ag ["_law_sizes", "_law_found", "_law_size", "_law_longer", "_law_place"] ["_law_sizes"] (aa dr):=∅
abbrev gk:Stmt:=top 70
def cn:ag ["_law_writes", "_law_reads", "_law_holder", "_law_n", "_law_found", "_law_j", "_law_i"] ["_law_writes", "_law_reads"] (aa gk):=∅
abbrev fj:Stmt:=top 71
def bM:ag ["_law_sizes", "_law_order", "_law_found", "_law_axis", "_law_way", "_law_numbers", "_law_longer", "_law_place"] ["_law_sizes", "_law_order"] (aa fj):=∅
abbrev fG:Stmt:=top 72
def cz:ag ["_law_sizes", "_law_place", "_law_number_here", "_law_size", "_law_k"] ["_law_sizes", "_law_place"] (aa fG):=∅
abbrev gn:Stmt:=top 73
def cp:ag ["_law_sizes", "_law_order", "_law_writes", "_law_reads", "_law_held", "_law_due", "_law_n", "_law_place"] ["_law_sizes", "_law_order", "_law_writes", "_law_reads"] (aa gn):=∅
abbrev cO:Stmt:=top 74
def cP:ag ["_law_script", "_law_one", "_law_other"] ["_law_script"] (aa cO):=∅
abbrev gj:Stmt:=top 75
def av:ag ["_law_script", "_law_sizes", "_law_paces", "_law_unit", "_law_k", "_law_size", "_law_others", "_law_way", "_law_first", "_law_begin", "_law_step", "_law_firsts", "_law_room", "_law_one", "_law_other"] ["_law_script", "_law_sizes"] (aa gj):=∅
abbrev cA:Stmt:=top 76
def dO:ag ["_law_some", "_law_axes", "_law_axis", "_law_along"] ["_law_some", "_law_axes"] (aa cA):=∅
abbrev fH:Stmt:=top 77
def iS:ag ["_law_told", "_law_due", "_law_axes", "_law_pair"] ["_law_told", "_law_due", "_law_axes"] (aa fH):=∅
abbrev fm:Stmt:=top 78
def fB:ag ["_law_one", "_law_other", "_law_order", "_law_held", "_law_store", "_law_beside"] ["_law_one", "_law_other", "_law_order"] (aa fm):=∅
abbrev jZ:Stmt:=top 79
def jG:ag ["_law_script", "_law_sizes", "_law_one", "_law_other", "_law_writes", "_law_reads", "_law_some", "_law_due", "_law_told", "_law_order", "_law_found"] ["_law_script"] (aa jZ):=∅
set_option genInjectivity false in
structure Adr where
 a_DW:Addr
 a_Je:Addr
 a_Jf:Addr
 a_VW:Addr
 a_Jg:Addr
 a_VX:Addr
 a_MV:Addr
 a_VT:Addr
 a_V0:Addr
 a_V3:Addr
 a_V1:Addr
 a_tW:Addr
 d_tW:FuncData
 a_wz:Addr
 d_wz:FuncData
 a_DX:Addr
 d_DX:FuncData
 a_DY:Addr
 d_DY:FuncData
 a_DZ:Addr
 d_DZ:FuncData
 a_tY:Addr
 d_tY:FuncData
 a_D8:Addr
 d_D8:FuncData
 a_wI:Addr
 d_wI:FuncData
 a_D9:Addr
 d_D9:FuncData
 a_A0:Addr
 d_A0:FuncData
 a_VU:Addr
 d_VU:FuncData
 a_DM:Addr
 d_DM:FuncData
 a_I0:Addr
 d_I0:FuncData
 a_Ja:Addr
 d_Ja:FuncData
 a_Ea:Addr
 d_Ea:FuncData
 a_DN:Addr
 d_DN:FuncData
 a_wC:Addr
 d_wC:FuncData
 a_A8:Addr
 d_A8:FuncData
 a_A9:Addr
 d_A9:FuncData
 a_Ba:Addr
 d_Ba:FuncData
 a_DO:Addr
 d_DO:FuncData
 a_Bb:Addr
 d_Bb:FuncData
 a_Bc:Addr
 d_Bc:FuncData
 a_wD:Addr
 d_wD:FuncData
 a_Jb:Addr
 d_Jb:FuncData
 a_VY:Addr
 d_VY:FuncData
 a_DP:Addr
 d_DP:FuncData
 a_wJ:Addr
 d_wJ:FuncData
 a_Jc:Addr
 d_Jc:FuncData
 a_IZ:Addr
 d_IZ:FuncData
 a_wK:Addr
 d_wK:FuncData
 a_rD:Addr
 d_rD:FuncData
 a_wA:Addr
 d_wA:FuncData
 a_Jd:Addr
 d_Jd:FuncData
 a_VV:Addr
 d_VV:FuncData
 a_AW:Addr
 d_AW:FuncData
 a_tT:Addr
 d_tT:FuncData
 a_A3:Addr
 d_A3:FuncData
 a_V4:Addr
 d_V4:FuncData
 a_A4:Addr
 d_A4:FuncData
 a_VZ:Addr
 d_VZ:FuncData
 a_AX:Addr
 d_AX:FuncData
 a_wF:Addr
 d_wF:FuncData
 a_Bd:Addr
 d_Bd:FuncData
 a_wG:Addr
 d_wG:FuncData
 a_DQ:Addr
 d_DQ:FuncData
 a_V2:Addr
 d_V2:FuncData
 a_AY:Addr
 d_AY:FuncData
 a_wB:Addr
 d_wB:FuncData
 a_tX:Addr
 d_tX:FuncData
 a_tU:Addr
 d_tU:FuncData
 a_Be:Addr
 d_Be:FuncData
 a_DR:Addr
 d_DR:FuncData
 a_AZ:Addr
 d_AZ:FuncData
 a_DS:Addr
 d_DS:FuncData
 a_Bf:Addr
 d_Bf:FuncData
 a_DT:Addr
 d_DT:FuncData
 a_DI:Addr
 d_DI:FuncData
 a_A5:Addr
 d_A5:FuncData
 a_DJ:Addr
 d_DJ:FuncData
 a_DU:Addr
 d_DU:FuncData
 a_A6:Addr
 d_A6:FuncData
 a_DK:Addr
 d_DK:FuncData
 a_tZ:Addr
 d_tZ:FuncData
 a_DL:Addr
 d_DL:FuncData
 a_wH:Addr
 d_wH:FuncData
 a_A7:Addr
 d_A7:FuncData
 a_DV:Addr
 d_DV:FuncData
 a_law:Addr
 d_law:FuncData
structure Tx(K:W.Frag)(mg:Str->Option Value)(t:Adr):Prop where
 m_DW:mg "PaceError"=some (.ref t.a_DW)
 m_Je:mg "NoPlace"=some (.ref t.a_Je)
 m_Jf:mg "NoCells"=some (.ref t.a_Jf)
 m_VW:mg "NoView"=some (.ref t.a_VW)
 m_Jg:mg "NoCount"=some (.ref t.a_Jg)
 m_VX:mg "NoPair"=some (.ref t.a_VX)
 m_MV:mg "NoOrder"=some (.ref t.a_MV)
 m_VT:mg "TooMany"=some (.ref t.a_VT)
 m_V0:mg "Twice"=some (.ref t.a_V0)
 m_V3:mg "View"=some (.ref t.a_V3)
 m_V1:mg "Store"=some (.ref t.a_V1)
 m_MOST_TOLD:∃ tk,mg "MOST_TOLD"=some (.int 4096 tk)
 m_MOST_ROOM:∃ tk,mg "MOST_ROOM"=some (.int 1000000000000000000 tk)
 m_MOST_SIZE:∃ tk,mg "MOST_SIZE"=some (.int 1000000000 tk)
 m_MOST_AXES:∃ tk,mg "MOST_AXES"=some (.int 8 tk)
 oi_TooMany:QC K t.a_VT t.a_tW
 tk_TooMany_number:W.takerIn K t.a_VT "number"=some none
 na_TooMany_number:dm K t.a_VT "number"
 bi_PaceError:PC K t.a_DW
 oi_Twice:QC K t.a_V0 t.a_wz
 tk_Twice_one:W.takerIn K t.a_V0 "one"=some none
 na_Twice_one:dm K t.a_V0 "one"
 tk_Twice_other:W.takerIn K t.a_V0 "other"=some none
 na_Twice_other:dm K t.a_V0 "other"
 cl_View:Cls K t.a_V3
 na_View_axes:dm K t.a_V3 "axes"
 na_View_first:dm K t.a_V3 "first"
 na_View_room:dm K t.a_V3 "room"
 mk_View:Mk K t.a_V3 t.a_wC
 mt_View_sizes:rQ K t.a_V3 "sizes" t.a_A8
 mt_View_paces:rQ K t.a_V3 "paces" t.a_A9
 mt_View_count:rQ K t.a_V3 "count" t.a_Ba
 mt_View_cell:rQ K t.a_V3 "cell" t.a_DO
 mt_View_cells:rQ K t.a_V3 "cells" t.a_Bb
 mt_View_least:rQ K t.a_V3 "least" t.a_Bc
 mt_View_greatest:rQ K t.a_V3 "greatest" t.a_wD
 cl_Store:Cls K t.a_V1
 na_Store_floor:dm K t.a_V1 "floor"
 mk_Store:Mk K t.a_V1 t.a_wB
 mt_Store_all_values:rQ K t.a_V1 "all_values" t.a_tX
 mt_Store_refuse_room:rQ K t.a_V1 "refuse_room" t.a_tU
 mt_Store_read:rQ K t.a_V1 "read" t.a_Be
 mt_Store_put:rQ K t.a_V1 "put" t.a_DR
 mt_Store_copied:rQ K t.a_V1 "copied" t.a_AZ
 F_tW:Fun K "__init__" "TooMany.__init__" eo t.a_tW t.d_tW
 b_tW:aw K t.d_tW ["self", "number"] []
 F_wz:Fun K "__init__" "Twice.__init__" fQ t.a_wz t.d_wz
 b_wz:aw K t.d_wz ["self", "one", "other"] []
 F_DX:Fun K "is_whole" "is_whole" ji t.a_DX t.d_DX
 m_DX:mg "is_whole"=some (.ref t.a_DX)
 b_DX:aw K t.d_DX ["thing"] []
 F_DY:Fun K "count_of" "count_of" jj t.a_DY t.d_DY
 m_DY:mg "count_of"=some (.ref t.a_DY)
 b_DY:aw K t.d_DY ["sizes"] []
 F_DZ:Fun K "paces_of" "paces_of" jh t.a_DZ t.d_DZ
 m_DZ:mg "paces_of"=some (.ref t.a_DZ)
 b_DZ:aw K t.d_DZ ["sizes"] []
 F_tY:Fun K "is_number_below" "is_number_below" cN t.a_tY t.d_tY
 m_tY:mg "is_number_below"=some (.ref t.a_tY)
 b_tY:aw K t.d_tY ["thing", "bound"] []
 F_D8:Fun K "is_place" "is_place" gG t.a_D8 t.d_D8
 m_D8:mg "is_place"=some (.ref t.a_D8)
 b_D8:aw K t.d_D8 ["sizes", "thing"] []
 F_wI:Fun K "split_number" "split_number" eB t.a_wI t.d_wI
 m_wI:mg "split_number"=some (.ref t.a_wI)
 b_wI:aw K t.d_wI ["sizes", "number"] []
 F_D9:Fun K "place_at" "place_at" jg t.a_D9 t.d_D9
 m_D9:mg "place_at"=some (.ref t.a_D9)
 b_D9:aw K t.d_D9 ["sizes", "number"] []
 F_A0:Fun K "refuse_long" "refuse_long" fD t.a_A0 t.d_A0
 m_A0:mg "refuse_long"=some (.ref t.a_A0)
 b_A0:aw K t.d_A0 ["count"] []
 F_VU:Fun K "places" "places" jP t.a_VU t.d_VU
 m_VU:mg "places"=some (.ref t.a_VU)
 b_VU:aw K t.d_VU ["sizes"] []
 F_DM:Fun K "is_within" "is_within" hJ t.a_DM t.d_DM
 m_DM:mg "is_within"=some (.ref t.a_DM)
 b_DM:aw K t.d_DM ["thing", "low", "high"] []
 F_I0:Fun K "is_size" "is_size" kI t.a_I0 t.d_I0
 m_I0:mg "is_size"=some (.ref t.a_I0)
 b_I0:aw K t.d_I0 ["thing"] []
 F_Ja:Fun K "is_axis" "is_axis" kK t.a_Ja t.d_Ja
 m_Ja:mg "is_axis"=some (.ref t.a_Ja)
 b_Ja:aw K t.d_Ja ["thing"] []
 F_Ea:Fun K "are_axes" "are_axes" gH t.a_Ea t.d_Ea
 m_Ea:mg "are_axes"=some (.ref t.a_Ea)
 b_Ea:aw K t.d_Ea ["thing"] []
 F_DN:Fun K "kept_axis" "kept_axis" hG t.a_DN t.d_DN
 m_DN:mg "kept_axis"=some (.ref t.a_DN)
 b_DN:aw K t.d_DN ["axis"] []
 F_wC:Fun K "__init__" "View.__init__" cC t.a_wC t.d_wC
 b_wC:aw K t.d_wC ["self", "room", "first", "axes"] []
 F_A8:Fun K "sizes" "View.sizes" ed t.a_A8 t.d_A8
 b_A8:aw K t.d_A8 ["self"] []
 F_A9:Fun K "paces" "View.paces" ee t.a_A9 t.d_A9
 b_A9:aw K t.d_A9 ["self"] []
 F_Ba:Fun K "count" "View.count" gq t.a_Ba t.d_Ba
 b_Ba:aw K t.d_Ba ["self"] []
 F_DO:Fun K "cell" "View.cell" fq t.a_DO t.d_DO
 b_DO:aw K t.d_DO ["self", "place"] []
 F_Bb:Fun K "cells" "View.cells" gr t.a_Bb t.d_Bb
 b_Bb:aw K t.d_Bb ["self"] []
 F_Bc:Fun K "least" "View.least" ef t.a_Bc t.d_Bc
 b_Bc:aw K t.d_Bc ["self"] []
 F_wD:Fun K "greatest" "View.greatest" cB t.a_wD t.d_wD
 b_wD:aw K t.d_wD ["self"] []
 F_Jb:Fun K "widened" "widened" iI t.a_Jb t.d_Jb
 m_Jb:mg "widened"=some (.ref t.a_Jb)
 b_Jb:aw K t.d_Jb ["cells", "size", "pace"] []
 F_VY:NB K "whole" "whole" i8 t.a_VY t.d_VY
 m_VY:mg "whole"=some (.ref t.a_VY)
 b_VY:aw K t.d_VY ["sizes", "room"] []
 b_whole_1:aw K t.d_VY ["sizes", "room"] [Value.none]
 F_DP:Fun K "has_twice" "has_twice" hU t.a_DP t.d_DP
 m_DP:mg "has_twice"=some (.ref t.a_DP)
 b_DP:aw K t.d_DP ["view"] []
 F_wJ:Fun K "refuse_rooms" "refuse_rooms" eD t.a_wJ t.d_wJ
 m_wJ:mg "refuse_rooms"=some (.ref t.a_wJ)
 b_wJ:aw K t.d_wJ ["one", "other"] []
 F_Jc:Fun K "is_loop" "is_loop" kJ t.a_Jc t.d_Jc
 m_Jc:mg "is_loop"=some (.ref t.a_Jc)
 b_Jc:aw K t.d_Jc ["thing", "many"] []
 F_IZ:Fun K "is_order" "is_order" eV t.a_IZ t.d_IZ
 m_IZ:mg "is_order"=some (.ref t.a_IZ)
 b_IZ:aw K t.d_IZ ["sizes", "thing"] []
 F_wK:Fun K "refuse_order" "refuse_order" eE t.a_wK t.d_wK
 m_wK:mg "refuse_order"=some (.ref t.a_wK)
 b_wK:aw K t.d_wK ["sizes", "order"] []
 F_rD:Fun K "refuse_sizes_unlike" "refuse_sizes_unlike" bP t.a_rD t.d_rD
 m_rD:mg "refuse_sizes_unlike"=some (.ref t.a_rD)
 b_rD:aw K t.d_rD ["to", "source"] []
 F_wA:Fun K "place_by_steps" "place_by_steps" df t.a_wA t.d_wA
 m_wA:mg "place_by_steps"=some (.ref t.a_wA)
 b_wA:aw K t.d_wA ["sizes", "order", "steps"] []
 F_Jd:Fun K "walk_of" "walk_of" gd t.a_Jd t.d_Jd
 m_Jd:mg "walk_of"=some (.ref t.a_Jd)
 b_Jd:aw K t.d_Jd ["sizes", "order"] []
 F_VV:Fun K "looped" "looped" om t.a_VV t.d_VV
 m_VV:mg "looped"=some (.ref t.a_VV)
 b_VV:aw K t.d_VV ["store", "to", "source", "order"] []
 F_AW:Fun K "refuse_twice" "refuse_twice" eC t.a_AW t.d_AW
 m_AW:mg "refuse_twice"=some (.ref t.a_AW)
 b_AW:aw K t.d_AW ["view"] []
 F_tT:Fun K "places_written_anew" "places_written_anew" bQ t.a_tT t.d_tT
 m_tT:mg "places_written_anew"=some (.ref t.a_tT)
 b_tT:aw K t.d_tT ["to", "source", "spots"] []
 F_A3:Fun K "bound_pairs" "bound_pairs" fF t.a_A3 t.d_A3
 m_A3:mg "bound_pairs"=some (.ref t.a_A3)
 b_A3:aw K t.d_A3 ["to", "source"] []
 F_V4:Fun K "gap" "gap" FQ t.a_V4 t.d_V4
 m_V4:mg "gap"=some (.ref t.a_V4)
 b_V4:aw K t.d_V4 ["pair", "axis"] []
 F_A4:Fun K "comes_right" "comes_right" fE t.a_A4 t.d_A4
 m_A4:mg "comes_right"=some (.ref t.a_A4)
 b_A4:aw K t.d_A4 ["pair", "order"] []
 F_VZ:Fun K "keeps" "keeps" nE t.a_VZ t.d_VZ
 m_VZ:mg "keeps"=some (.ref t.a_VZ)
 b_VZ:aw K t.d_VZ ["to", "source", "order"] []
 F_AX:Fun K "helpful_loop" "helpful_loop" cQ t.a_AX t.d_AX
 m_AX:mg "helpful_loop"=some (.ref t.a_AX)
 b_AX:aw K t.d_AX ["pairs", "many"] []
 F_wF:Fun K "barring_pairs" "barring_pairs" bO t.a_wF t.d_wF
 m_wF:mg "barring_pairs"=some (.ref t.a_wF)
 b_wF:aw K t.d_wF ["pairs", "many"] []
 F_Bd:Fun K "loop_order" "loop_order" ck t.a_Bd t.d_Bd
 m_Bd:mg "loop_order"=some (.ref t.a_Bd)
 b_Bd:aw K t.d_Bd ["to", "source"] []
 F_wG:Fun K "is_known_pair" "is_known_pair" dN t.a_wG t.d_wG
 m_wG:mg "is_known_pair"=some (.ref t.a_wG)
 b_wG:aw K t.d_wG ["thing", "sizes", "known"] []
 F_DQ:Fun K "bars_axis" "bars_axis" fi t.a_DQ t.d_DQ
 m_DQ:mg "bars_axis"=some (.ref t.a_DQ)
 b_DQ:aw K t.d_DQ ["pairs", "axis"] []
 F_V2:Fun K "bars" "bars" pM t.a_V2 t.d_V2
 m_V2:mg "bars"=some (.ref t.a_V2)
 b_V2:aw K t.d_V2 ["to", "source", "some"] []
 F_AY:Fun K "refuse_count" "refuse_count" eF t.a_AY t.d_AY
 m_AY:mg "refuse_count"=some (.ref t.a_AY)
 b_AY:aw K t.d_AY ["view", "many"] []
 F_wB:Fun K "__init__" "Store.__init__" dg t.a_wB t.d_wB
 b_wB:aw K t.d_wB ["self", "values"] []
 F_tX:Fun K "all_values" "Store.all_values" cD t.a_tX t.d_tX
 b_tX:aw K t.d_tX ["self"] []
 F_tU:Fun K "refuse_room" "Store.refuse_room" cc t.a_tU t.d_tU
 b_tU:aw K t.d_tU ["self", "view"] []
 F_Be:Fun K "read" "Store.read" eh t.a_Be t.d_Be
 b_Be:aw K t.d_Be ["self", "view"] []
 F_DR:Fun K "put" "Store.put" ia t.a_DR t.d_DR
 b_DR:aw K t.d_DR ["self", "view", "values"] []
 F_AZ:Fun K "copied" "Store.copied" eG t.a_AZ t.d_AZ
 b_AZ:aw K t.d_AZ ["self", "to", "source"] []
 F_DS:Fun K "_law_draw" "_law_draw" hV t.a_DS t.d_DS
 m_DS:mg "_law_draw"=some (.ref t.a_DS)
 b_DS:aw K t.d_DS ["_law_script", "_law_k", "_law_many"] []
 F_Bf:Fun K "_law_least" "_law_least" dY t.a_Bf t.d_Bf
 m_Bf:mg "_law_least"=some (.ref t.a_Bf)
 b_Bf:aw K t.d_Bf ["_law_sizes", "_law_paces"] []
 F_DT:Fun K "_law_most" "_law_most" fk t.a_DT t.d_DT
 m_DT:mg "_law_most"=some (.ref t.a_DT)
 b_DT:aw K t.d_DT ["_law_sizes", "_law_paces"] []
 F_DI:Fun K "_law_cells" "_law_cells" dZ t.a_DI t.d_DI
 m_DI:mg "_law_cells"=some (.ref t.a_DI)
 b_DI:aw K t.d_DI ["_law_first", "_law_sizes", "_law_paces"] []
 F_A5:Fun K "_law_places" "_law_places" dr t.a_A5 t.d_A5
 m_A5:mg "_law_places"=some (.ref t.a_A5)
 b_A5:aw K t.d_A5 ["_law_sizes"] []
 F_DJ:Fun K "_law_pairs" "_law_pairs" gk t.a_DJ t.d_DJ
 m_DJ:mg "_law_pairs"=some (.ref t.a_DJ)
 b_DJ:aw K t.d_DJ ["_law_writes", "_law_reads"] []
 F_DU:Fun K "_law_walk" "_law_walk" fj t.a_DU t.d_DU
 m_DU:mg "_law_walk"=some (.ref t.a_DU)
 b_DU:aw K t.d_DU ["_law_sizes", "_law_order"] []
 F_A6:Fun K "_law_number" "_law_number" fG t.a_A6 t.d_A6
 m_A6:mg "_law_number"=some (.ref t.a_A6)
 b_A6:aw K t.d_A6 ["_law_sizes", "_law_place"] []
 F_DK:Fun K "_law_keeps" "_law_keeps" gn t.a_DK t.d_DK
 m_DK:mg "_law_keeps"=some (.ref t.a_DK)
 b_DK:aw K t.d_DK ["_law_sizes", "_law_order", "_law_writes", "_law_reads"] []
 F_tZ:Fun K "_law_some_sizes" "_law_some_sizes" cO t.a_tZ t.d_tZ
 m_tZ:mg "_law_some_sizes"=some (.ref t.a_tZ)
 b_tZ:aw K t.d_tZ ["_law_script"] []
 F_DL:Fun K "_law_views" "_law_views" gj t.a_DL t.d_DL
 m_DL:mg "_law_views"=some (.ref t.a_DL)
 b_DL:aw K t.d_DL ["_law_script", "_law_sizes"] []
 F_wH:Fun K "_law_has_both" "_law_has_both" cA t.a_wH t.d_wH
 m_wH:mg "_law_has_both"=some (.ref t.a_wH)
 b_wH:aw K t.d_wH ["_law_some", "_law_axes"] []
 F_A7:Fun K "_law_is_bar" "_law_is_bar" fH t.a_A7 t.d_A7
 m_A7:mg "_law_is_bar"=some (.ref t.a_A7)
 b_A7:aw K t.d_A7 ["_law_told", "_law_due", "_law_axes"] []
 F_DV:Fun K "_law_left" "_law_left" fm t.a_DV t.d_DV
 m_DV:mg "_law_left"=some (.ref t.a_DV)
 b_DV:aw K t.d_DV ["_law_one", "_law_other", "_law_order"] []
 F_law:Fun K "law" "law" jZ t.a_law t.d_law
 m_law:mg "law"=some (.ref t.a_law)
 b_law:aw K t.d_law ["_law_script"] []
 z_ValueError:mg "ValueError"=none
 z_all:mg "all"=none
 z_bool:mg "bool"=none
 z_enumerate:mg "enumerate"=none
 z_int:mg "int"=none
 z_isinstance:mg "isinstance"=none
 z_len:mg "len"=none
 z_list:mg "list"=none
 z_max:mg "max"=none
 z_min:mg "min"=none
 z_range:mg "range"=none
 z_reversed:mg "reversed"=none
 z_set:mg "set"=none
 z_sum:mg "sum"=none
 z_tuple:mg "tuple"=none
 z_zip:mg "zip"=none
local macro_rules | `(tactic| trivial) => `(tactic| first | exact Or.inl rfl | exact Or.inr rfl | exact Or.inr (Or.inl rfl) | exact Or.inr (Or.inr rfl) | assumption)
local macro_rules | `(tactic| simp! only [$xs,*]) => do
  let ys := xs.getElems.map λ x => (⟨x.raw⟩ : Lean.TSyntax `Lean.Parser.Tactic.simpLemma)
  let zs ← ("!reduceIte !kM !Jx !Jw !Jv !Ju !Jt !Js !Jr !Jq !Jp !Jo !Eu !Et !Es !Er !Ep !Fp !Pf !OU !QT !Pa !OR !wg !tN !tO !tM !Mj !LJ !MN !LP !Pe !OT !Ms !OX !MD !LK !DD !IK !HN !AQ !AO !AN !AM !HQ !Pl !OY !HK !LH !LI !IJ !HL !Mr !pQ !ML !LO !Pj !Mn !LX !Mp !Ph !O0 !LV !LU !wj !tR !rC !tQ !AJ !AI !AH !AG !AF !AE !Az !Ay !Ax !Aw !Ar !Aq !Ap !Av !Au !As !Ao !An !Am !AD !AB !AA !MI !Pm !OZ !MH !LN !MM !Ai !Me !we !Iz !Mb !HW !Dz !DA !MS !Pk !O1 !aD !LL !Pb !IU !AL !Mt !MP !O9 !Kq !Lu !HP !Iv !HI !MU !gL !gK !ph !DB !DC !Mw !wm !pf !pd !tS !tP !pe !pb !yI !AK !L8 !L9 !Ma !OS !Ag !IA !HJ !Pc !Pd !LR !LW !QX !Ii !IC !Ds !Ml !Mm !Fo !Pg !O2 !Ij !Mc !Md !MQ !Ir !LS !MG !IS !LY !Io !Im !Iq !Ip !O5 !MO !aJ !aL !dB !HV !HU !IF !IG !Mv !L4 !Iu !Iw !Iy !Ic !wu !wt !wq !Dw !ID !Ig !IE !Ak !Aj !Ih !MF !Ik !Dx !Dy !Mo !OV !HX !HZ !IH !II !Ah !Mx !Mz !IV !OW !MC !HM !MA !MB !HS !LF !LD !LC !LB !LA !Lz !Ly !Lx !Lw !Lv !HH !HG !HF !HE !HD !O4 !QV !QU !Dv !Ib !IQ !Il !Mi !L1 !IB !Ie !IL !IM !IP !Du !IW !DE !Mf !L0 !Mq !O3 !LZ !L3 !O6 !O7 !QW !O8 !IT !Dr !Mu !Dq !MJ !MK !LM !HY !Ia !Dt !Mg !Mh !HR !L5 !L6 !L7 !LG kM cZ aA jY Cw Cv DF Cs xb aq GL GO GN KS GR KW GS GP GQ Cp Eh Jk Eg Ef Q4 rA Px Pw EA cK dM gv JO Nd Option.isSome_some Option.isSome_none Option.map_some List.length_cons List.length_nil List.length_map List.map_cons List.map_nil and_true true_and and_self implies_true reduceCtorEq decide_true decide_false Bool.not_true Bool.not_false if_true if_false decide_eq_true_eq Bool.false_eq_true Bool.not_eq_true' decide_eq_false_iff_not Bool.and_true Bool.true_and Bool.and_self Bool.and_eq_true Int.reduceToNat Int.reducePow Int.reduceMul Int.reduceAdd Int.reduceSub Int.reduceNeg Int.reduceLT Int.reduceLE Int.reduceEq Int.reduceNe Int.reduceDiv Int.reduceMod Nat.reduceAdd Nat.reduceLeDiff Nat.reduceLT Nat.reduceMul Nat.reducePow gt_iff_lt ge_iff_le ne_eq false_implies true_implies eq_self String.reduceEq Int.cast_ofNat_Int not_true_eq_false not_false_eq_true false_and and_false List.cons_append List.nil_append List.append_nil Ks".splitOn " ").toArray.mapM λ s => if s.startsWith "!" then `(Lean.Parser.Tactic.simpLemma| ↓ $(Lean.mkIdent (s.replace "!" "").toName):ident) else `(Lean.Parser.Tactic.simpLemma| $(Lean.mkIdent s.toName):ident)
  `(tactic| simp (config := { failIfUnchanged := false, maxDischargeDepth := 30, maxSteps := 10000000 }) only [$zs,*, $ys,*, *])
local macro_rules | `(%[$xs,*|$k:num]) => do
  let a := xs.getElems
  let s (i : Nat) : String := a[i]!.raw.getId.toString
  let I (n : String) : Lean.TSyntax `term := ⟨(Lean.mkIdent n.toName).raw⟩
  match k.getNat with
  | 44 => `($(a[0]!) (P := $(I "P")) (w := $(I "w")) (base := $(I "base")) $(I "T"))
  | 0 => `(@pvN _ $(a[0]!) _ _ (by rfl) (by trivial) (by decide) (by decide))
  | 1 => if a.size = 1 then `(@JW _ _ _ _ _ $(a[0]!) (@cU _) (by rfl)) else `(@JW _ _ _ _ _ $(a[0]!) $(a[1]!) (by rfl))
  | 2 => `(@fZ _ _ _ _)
  | 7 => `(by trivial)
  | 8 => `(by omega)
  | 3 => `(@yC _ _ _ _ _ _ _ _ _ _ _ _ _ _ _ _ $(I ("G_" ++ s 0)) ($(I "hr.mono") (by decide)) (by rfl) $(I ("T.m_" ++ s 0)) $(I ("T.F_" ++ s 0 ++ ".kp")) $(I ("T.b_" ++ s 0)) .nil aW $(a[1]!) (by decide) (by rfl) (by rfl))
  | 4 => `(@fY _ _ $(a[0]!) _ _ _ _ ($(a[1]!)).nd rfl (Or.inl rfl) $(a[2]!) (by rfl) (by trivial))
  | 5 => `(@yz _ _ $(a[0]!) _ ($(a[1]!)).nd rfl (Or.inl rfl) (by trivial))
  | 6 => `(@jR _ _ _ _ _ _ _ $(Lean.Syntax.mkStrLit (s 0)) _ $(a[1]!) (by rfl) $(I ("T.z_" ++ s 0)) (by decide +kernel) $(a[2]!) (by decide) (by decide) (by rfl) (by rfl))
  | 9 => `(@iD _ _ _ _ _ $(a)*)
  | 10 => `(@nG _ _ _ $(a)*)
  | 11 => `(@xZ _ _ _ _ $(a)*)
  | 12 => `(@FY _ _ _ _ _ _ _ $(a)*)
  | 13 => `(@fX _ _ _ _ _ _ _ _ $(a)*)
  | 14 => `(@yz _ _ $(a)*)
  | 15 => `(@CJ _ _ _ _ _ _ _ _ $(a)*)
  | 16 => `(@zS _ _ _ _ _ $(a)*)
  | 17 => `(@FW _ _ _ _ _ _ _ _ $(a)*)
  | 18 => `(@Hn _ _ _ _ $(a)*)
  | 19 => `(@K8 _ _ _ _ $(a)*)
  | 20 => `(@He _ _ _ _ $(a)*)
  | 21 => `(@K6 _ _ _ _ _ _ _ _ $(a)*)
  | 22 => `(@Hq _ _ _ _ _ _ _ _ _ _ _ $(a)*)
  | 23 => `(@zT _ _ _ _ _ _ _ _ _ _ _ _ _ _ _ _ _ $(a)*)
  | 24 => `(@dw _ _ _ $(a)*)
  | 25 => `(@K9 _ _ _ _ _ $(a)*)
  | 26 => `(@K5 _ _ _ _ $(a)*)
  | 27 => `(@yA _ _ _ _ _ $(a)*)
  | 28 => `(@Hb _ _ _ $(a)*)
  | 29 => `(@Hm _ _ _ _ _ $(a)*)
  | 30 => `(@Hs _ _ _ _ _ _ _ $(a)*)
  | 31 => `(@Hr _ _ _ _ _ _ _ _ $(a)*)
  | 32 => `(@zR _ _ _ _ _ _ $(a)*)
  | 33 => `(@OB _ _ _ _ _ _ _ $(a)*)
  | 34 => `(@K2 _ _ _ _ $(a)*)
  | 35 => `(@CT _ _ _ _ _ _ _ _ _ _ _ _ _ _ _ _ _ _ _ _ $(a)*)
  | 36 => `(@Lc _ _ _ _ _ $(a)*)
  | 37 => `(@OE _ _ _ _ _ _ _ _ _ _ _ _ $(a)*)
  | 38 => `(@zV _ _ _ _ _ _ _ _ _ $(a)*)
  | 39 => `(@K7 _ _ _ _ _ _ _ _ _ $(a)*)
  | 40 => `(@Hc _ _ _ _ _ _ _ _ _ _ _ _ _ $(a)*)
  | 41 => `(@CQ _ _ _ _ _ _ _ _ _ _ $(a)*)
  | 42 => `(@K3 _ _ _ _ _ _ _ $(a)*)
  | 43 => `(@CU _ _ _ _ _ _ _ _ _ _ _ _ _ _ _ _ _ $(a)*)
  | 51 => `(%[$(a[0]!),_,(show List.Nodup (($(a[1]!)) : List Str) from by decide +kernel),rfl,(Or.inl rfl),%[0|7]|14])
  | 45 => `(some (.ref $(a[0]!)))
  | 46 => `(some (.lst (List.map V.int $(a[0]!))))
  | 47 => `(some (.int $(a[0]!)))
  | 48 => `(List (Int × Int))
  | 49 => `(bh $(I "P") $(I "w") $(I "K") $(I "mg") $(I "base") CX0 $(a[0]!) $(I ("t.a_" ++ s 1)) $(I ("t.d_" ++ s 1)))
  | 50 => do
    let J (n : String) : Lean.Ident := Lean.mkIdent n.toName
    `(fun $(J "c"):ident $(J "A"):ident $(J "o"):ident $(J "s"):ident $(J "H"):ident $(J "vs"):ident $(J "Q"):ident $(J "E"):ident $(J "hr"):ident $(J "h"):ident => ?_)
  | _ => Lean.Macro.throwUnsupported
local macro_rules | `(∅) => `(by rfl)
local macro_rules | `(⋯) => `(by decide)
local macro_rules | `(tactic| ac_rfl) => `(tactic| simp! only [and_true])
local macro_rules | `(tactic| exists $x:ident) => `(tactic| replace $x := λ (_ : Unit) => $x)
section
variable {P:Program}{w:World}{K:PySem.W.Frag}{mg:Str->Option Value}{base:Heap}{t:Adr}
def xP(K:W.Frag)(a:Addr)(ns:List Int):Sp:=λ vs H Q E=>∃ (k:Int) (m:Int),vs=[.ref a,.int k,.int m]/\(SqL K H a (ns.map V.int)/\ns.length<=63/\(0<=k/\k < 1000)/\0 < m/\∀ z:Int,0<=z->z < m->Q (.int z) H)
def b8(K:W.Frag)(a:Addr)(ns:List Int)(k:Int)(m:Int)(H:Hp)(Q:VK)(E:XK):xP K a ns [.ref a,.int k,.int m] H Q E=(SqL K H a (ns.map V.int)/\ns.length<=63/\(0<=k/\k < 1000)/\0 < m/\∀ z:Int,0<=z->z < m->Q (.int z) H):=iu (f:=λ (k:Int) (m:Int)=>[.ref a,.int k,.int m]) (λ _ _ _ _ h=>by cases h;exact⟨rfl,rfl⟩) k m
def gu(T:Tx K mg t)(a:Addr)(ns:List Int):%[1,DS|49] ["_law_script", "_law_k", "_law_many"] (xP K a ns):=by
 refine T.F_DS.ok fC (λ _ _ _ _ h=>iw h λ _ _=>rfl) %[0|50]
 ·obtain⟨k,m,rfl,hS,hl,⟨aS,aX⟩,hm,kk⟩:=h;have fin:∀ z:Int,Q (.int (z % m)) H:=λ z=>kk _ (UZ _ %[0|8]) (Uz _ hm)
  refine⟨_,(iD (FW (sJ Kk (pv 1) (jR (id := "len") ek ∅ T.z_len nofun (JW (pv 0) cU)) (ar _))
   (nG (xZ (fX kd (FY sN (pv 0) (pv 1) (λ _ _=>rfl)) (pv 2))))
   au)
  (iD (fY (i:=3) fC.nd rfl (Or.inl rfl) (fX uv (fX jy (fX jy (pv 1) (pv 1)) fZ) fZ))
  (iD (FW (sJ Kl (jR (id := "len") ek ∅ T.z_len nofun (JW (pv 0) cU)) fZ (ar _))
   (iD (fY (i:=4) fC.nd rfl (Or.inl rfl) (fX kd (FY sN (pv 0) (fX kd (pv 1) (jR (id := "len") ek ∅ T.z_len nofun (JW (pv 0) cU))) (λ _ _=>rfl)) fZ))
   (nG (fY (i:=3) fC.nd rfl (Or.inl rfl) (fX uv (fX jy (pv 4) (fX uv fZ (fX jy (fX jy fZ (pv 1)) (pv 1)))) (fX jy (pv 1) fZ)))))
   au)
  (nG (xZ (fX kd (fX kd (fX jy (fX kd (pv 3) fZ) fZ) fZ) (pv 2))))))),?_⟩
  refine⟨_,rfl,_,rfl,a,_,rfl,.inl hS,_,_,rfl,rfl,_,rfl,?_⟩;refine Qt (λ h=>?_) (λ h=>?_)
  ·have h1:k < (ns.length:Int):=by simpa using h
   obtain⟨z,hz,_⟩:=va ns k aS h1;exact⟨_,rfl,_,rfl,a,_,k,_,rfl,rfl,hS,hz,_,rfl,_,_,rfl,rfl,hm,fin _⟩
  ·refine⟨_,rfl,_,rfl,_,_,rfl,rfl,.inl ⟨by omega,by omega⟩,_,_,rfl,rfl,.inr ⟨by decide,by decide⟩,_,_,rfl,rfl,?_⟩;refine⟨_,rfl,a,_,rfl,.inl hS,_,_,rfl,rfl,_,rfl,?_⟩;refine Qt (λ h2=>?_) (λ h2=>?_)
   ·have h3:0 < (ns.length:Int):=by simpa using h2
    have h4:(0:Int) < ((ns.map V.int).length:Int):=by simpa using h3
    obtain⟨z,hz,_⟩:=va ns (k % ((ns.map V.int).length:Int)) (UZ _ %[0|8]) (by have:=Uz k h4;simpa using this);refine⟨_,rfl,_,rfl,_,rfl,a,_,rfl,.inl hS,_,_,rfl,rfl,h4,a,_,_,_,rfl,rfl,hS,hz,_,_,rfl,rfl,(by first|decide|(show (0:Int) < _;decide)),?_⟩;refine⟨_,rfl,_,rfl,_,_,rfl,rfl,.inl ⟨by decide,by decide⟩,_,rfl,_,_,rfl,rfl,.inr ⟨by omega,by omega⟩,_,_,rfl,rfl,_,_,rfl,rfl,?_,?_⟩
    ·refine .inl ⟨?_,?_⟩
     ·have:=UZ z (show (999999937:Int) ≠ 0 by decide);omega
     ·have:=Uz z (show (0:Int) < 999999937 by decide);omega
    refine⟨_,rfl,_,_,rfl,rfl,.inr ⟨by decide,by decide⟩,_,_,rfl,rfl,?_⟩;exact⟨_,rfl,_,_,rfl,rfl,(by first|decide|(show (0:Int) < _;decide)),_,_,rfl,rfl,.inr ⟨by decide,by decide⟩,_,_,rfl,rfl,(by first|decide|(show (0:Int) < _;decide)),_,rfl,_,_,rfl,rfl,hm,fin _⟩
   ·exact⟨_,rfl,_,_,rfl,rfl,(by first|decide|(show (0:Int) < _;decide)),_,_,rfl,rfl,.inr ⟨by decide,by decide⟩,_,_,rfl,rfl,(by first|decide|(show (0:Int) < _;decide)),_,rfl,_,_,rfl,rfl,hm,fin _⟩
def si  : Sp:=λ vs H Q E=>∃ (x:V),vs=[x]/\(aH (isW H x) (kE4 H Q))
def bK  (x:V) (H:Hp) (Q:VK) (E:XK):si  [x] H Q E=(aH (isW H x) (kE4 H Q)):=lZ (f:=λ (x:V)=>[x]) (λ _ _ h=>by cases h;exact rfl) x
def dH(T:Tx K mg t):%[1,DX|49] ["thing"] si:=by
 refine T.F_DX.ok w5 (λ _ _ _ _ h=>lX h λ _=>rfl) %[0|50]
 ·obtain⟨x,rfl,h⟩:=h;obtain⟨b,hb,k⟩:=ai h;clear h;rw [Kq] at k;refine⟨_,%[%[%[%[isinstance,bz,%[%[0|0],%[(@cY _ _ (.ty "int") (.type "int") _ ∅ T.z_int nofun rfl ⋯ ⋯)|1]|1]|6],%[(@Ho _ _ _ _ %[isinstance,bz,%[%[0|0],%[(@cY _ _ (.ty "bool") (.type "bool") _ ∅ T.z_bool nofun rfl ⋯ ⋯)|1]|1]|6])|36]|30]|11]|10],?_⟩;rw [show az ["thing"] [x]=[some (x)] from rfl]
  cases x with
  | int i=>cases hb;ac_rfl
  | bl i=>cases hb;ac_rfl
  | non=>cases hb;ac_rfl
  | str i=>cases hb;ac_rfl
  | ref p=>
   obtain⟨rfl,o,ho,ht⟩:=jb hb
   rcases ht with ht|ht|ht<;>ac_rfl
  | _=>cases hb
def kSz(F:List Int->Prop):List Int->Prop:=λ ns=>dA ns/\F ns
def iY(F:List Int->Prop)(ns:List Int):kSz F ns=(dA ns/\F ns):=rfl
def Oj(H:Hp)(Q:VK):List Int->Prop:=λ ns=>Q (.int (ae ns)) H
def pK(H:Hp)(Q:VK)(ns:List Int):Oj H Q ns=Q (.int (ae ns)) H:=rfl
def sE  : Sp:=λ vs H Q E=>∃ (p:Addr),vs=[.ref p]/\(aH (aA H p) (dR (kSz (Oj H Q))))
def iM  (p:Addr) (H:Hp) (Q:VK) (E:XK):sE  [.ref p] H Q E=(aH (aA H p) (dR (kSz (Oj H Q)))):=lZ (f:=λ (p:Addr)=>[.ref p]) (λ _ _ h=>by cases h;exact rfl) p
def ft(T:Tx K mg t):%[1,DY|49] ["sizes"] sE:=by
 refine T.F_DY.ok gP (λ _ _ _ _ h=>lX h λ _=>rfl) %[0|50]
 ·obtain⟨p,rfl,h⟩:=h;obtain⟨xs,hp,ns,rfl,hs,k⟩:=ai h;replace hp:=bj hp;rw [pK] at k;refine⟨_,%[%[1,gP,%[0|2]|4],%[%[RA,rfl,%[%[0|0]|19],%[2,gP|5],%[%[1,gP,%[yF,%[1|0],%[2|0]|13]|4]|10],(by intros;rfl)|21],%[%[%[1|0]|11]|10]|9]|9],?_⟩;rw [show az ["sizes", "count", "size"] [.ref p]=[%[p|45],none,none] from rfl];ac_rfl;refine cw (xs:=ns.map V.int) (λ i σ H'=>∃ v:Option V,σ=[%[p|45],some (.int (ae (ns.take i))),v]/\H'=H) ⟨_,rfl,rfl⟩ (λ i σ H' _ ⟨_,_,e⟩=>by subst e;exact hp) ?_ ?_
  ·rintro i x _ _ hi ⟨v,rfl,rfl⟩;rw [Rq] at hi;obtain⟨z,hz,rfl⟩:=Rm.mp hi;have e:=jk ns i z hz;have b1:=(hs.take i).prod;have b2:=hs.2 z (Rx hz)
   have c1:(ae (ns.take i)).natAbs < 2 ^ 256:=by
    generalize ae (ns.take i)=y at b1;have:(1000000000:Int) ^ 8 < 2 ^ 256:=by decide
    omega
   have c2:z.natAbs < 2 ^ 256:=by omega
   clear b1 b2;simp! only [↓aD,vb];exact⟨_,rfl⟩
  ·rintro _ _ ⟨v,rfl,rfl⟩;rw [Rh,R6];ac_rfl
def nS  : Sp:=λ vs H Q E=>∃ (i:Int) (lo:Int) (hi:Int),vs=[.int i,.int lo,.int hi]/\(Q (.bl (decide (lo<=i) && decide (i<=hi))) H)
def mY  (i:Int) (lo:Int) (hi:Int) (H:Hp) (Q:VK) (E:XK):nS  [.int i,.int lo,.int hi] H Q E=(Q (.bl (decide (lo<=i) && decide (i<=hi))) H):=xf (f:=λ (i:Int) (lo:Int) (hi:Int)=>[.int i,.int lo,.int hi]) (λ _ _ _ _ _ _ h=>by cases h;exact⟨rfl,rfl,rfl⟩) i lo hi
def jA(T:Tx K mg t):%[2,DM|49] ["thing", "low", "high"] nS:=by
 have G_DX:=%[dH|44];refine T.F_DM.ok ue (λ _ _ _ _ h=>xg h λ _ _ _=>rfl) %[0|50]
 ·obtain⟨i,lo,hi,rfl,k⟩:=h;refine⟨_,%[%[%[%[DX,%[%[0|0]|1]|3],%[(@ql _ _ _ _ _ _ _ _ _ _ _ _ pJ pJ %[1|0] %[0|0] %[2|0] ∅)|36]|30]|11]|10],?_⟩;rw [show az ["thing", "low", "high"] [.int i,.int lo,.int hi]=[%[i|47],%[lo|47],%[hi|47]] from rfl]
  by_cases h0:lo<=i
  ·rw [Rp h0,Up] at k;simp! only [↓bK]
  ·rw [Ry h0,UE] at k;simp! only [↓bK]
def xB  : Sp:=λ vs H Q E=>∃ (i:Int),vs=[.int i]/\(Q (.bl (decide (1<=i) && decide (i<=1000000000))) H)
def EJ  (i:Int) (H:Hp) (Q:VK) (E:XK):xB  [.int i] H Q E=(Q (.bl (decide (1<=i) && decide (i<=1000000000))) H):=lZ (f:=λ (i:Int)=>[.int i]) (λ _ _ h=>by cases h;exact rfl) i
def vZ(T:Tx K mg t):%[3,I0|49] ["thing"] xB:=by
 have G_DM:=%[jA|44];refine T.F_I0.ok BH (λ _ _ _ _ h=>lX h λ _=>rfl) %[0|50]
 ·obtain⟨i,rfl,k⟩:=h;refine⟨_,%[%[%[DM,%[%[0|0],%[%[0|2],%[(@nH _ _ (.int 1000000000) _ _ ∅ T.m_MOST_SIZE.choose_spec ⟨_,rfl⟩ ⋯)|1]|1]|1]|3]|11]|10],?_⟩;rw [show az ["thing"] [.int i]=[%[i|47]] from rfl];simp! only [↓mY]
abbrev vA  (p:Addr) (H:Hp) (Q:VK) (E:XK):Prop:=∃ a:Int × Int,H p=some (.tup [.int a.1,.int a.2])/\1<=a.1/\a.1<=1000000000/\Q (.bl true) H
def xT  : Sp:=λ vs H Q E=>∃ (p:Addr),vs=[.ref p]/\(vA  p H Q E)
def ET  (p:Addr) (H:Hp) (Q:VK) (E:XK):xT  [.ref p] H Q E=(vA  p H Q E):=lZ (f:=λ (p:Addr)=>[.ref p]) (λ _ _ h=>by cases h;exact rfl) p
def v9(T:Tx K mg t):%[4,Ja|49] ["thing"] xT:=by
 have G_I0:=%[vZ|44];have G_DX:=%[dH|44];refine T.F_Ja.ok BJ (λ _ _ _ _ h=>lX h λ _=>rfl) %[0|50]
 ·obtain⟨p,rfl,a,hp,h1,h2,k⟩:=h;refine⟨_,%[%[%[%[isinstance,bz,%[%[0|0],%[(@cY _ _ (.ty "tuple") (.type "tuple") _ ∅ T.z_tuple nofun rfl ⋯ ⋯)|1]|1]|6],%[%[(cV hr.units),%[len,ao,%[%[0|0]|1]|6],%[0|2],(ar _)|31],%[%[I0,%[%[cq,%[0|0],%[0|2],(λ _ _=>rfl)|12]|1]|3],%[%[DX,%[%[cq,%[0|0],%[0|2],(λ _ _=>rfl)|12]|1]|3]|36]|30]|30]|30]|11]|10],?_⟩;rw [show az ["thing"] [.ref p]=[%[p|45]] from rfl];simp! only [↓EJ,↓bK]
abbrev vp  (p:Addr) (H:Hp) (Q:VK) (E:XK):Prop:=∃ a:Int × Int,H p=some (.tup [.int a.1,.int a.2])/\∀ (r:Addr) (H':Hp),H r=none->Ext H H'->H' r=some (.tup [.int (aN a).1,.int (aN a).2])->Q (.ref r) H'
def xM  : Sp:=λ vs H Q E=>∃ (p:Addr),vs=[.ref p]/\(vp  p H Q E)
def ER  (p:Addr) (H:Hp) (Q:VK) (E:XK):xM  [.ref p] H Q E=(vp  p H Q E):=lZ (f:=λ (p:Addr)=>[.ref p]) (λ _ _ h=>by cases h;exact rfl) p
def rh(T:Tx K mg t):%[1,DN|49] ["axis"] xM:=by
 refine T.F_DN.ok ud (λ _ _ _ _ h=>lX h λ _=>rfl) %[0|50]
 ·obtain⟨p,rfl,a,hp,k⟩:=h;refine⟨_,%[%[%[%[%[cq,%[0|0],%[0|2],(λ _ _=>rfl)|12],%[(@ou _ _ _ _ _ _ _ _ %[ny,%[cq,%[0|0],%[0|2],(λ _ _=>rfl)|12],%[0|2],(ar _)|15] %[cq,%[0|0],%[0|2],(λ _ _=>rfl)|12] %[0|2])|1]|1]|29]|11]|10],?_⟩;rw [show az ["axis"] [.ref p]=[%[p|45]] from rfl];have e1:(aN a).1=a.1:=rfl
  by_cases h1:1 < a.1
  ·have e2:(aN a).2=a.2:=RP h1;rw [e1,e2] at k;ac_rfl;exact λ r H' h e h'=>k r H' h e h'
  ·have e2:(aN a).2=0:=RH h1;rw [e1,e2] at k;ac_rfl;exact λ r H' h e h'=>k r H' h e h'
abbrev vB  (p:Addr) (H:Hp) (Q:VK) (E:XK):Prop:=∃ axs:%[0|48],aR H p (axL axs)/\fM axs/\∀ H',Ext H H'->Q (.bl true) H'
def xU  : Sp:=λ vs H Q E=>∃ (p:Addr),vs=[.ref p]/\(vB  p H Q E)
def EU  (p:Addr) (H:Hp) (Q:VK) (E:XK):xU  [.ref p] H Q E=(vB  p H Q E):=lZ (f:=λ (p:Addr)=>[.ref p]) (λ _ _ h=>by cases h;exact rfl) p
def tI(T:Tx K mg t):%[5,Ea|49] ["thing"] xU:=by
 have G_Ja:=%[v9|44];refine T.F_Ea.ok xa (λ _ _ _ _ h=>lX h λ _=>rfl) %[0|50]
 ·obtain⟨p,rfl,axs,⟨ys,hp,al⟩,ha,k⟩:=h;refine⟨_,%[%[%[%[isinstance,bz,%[%[0|0],%[(@cY _ _ (.ty "list") (.type "list") _ ∅ T.z_list nofun rfl ⋯ ⋯)|1]|1]|6],%[%[pJ,%[len,ao,%[%[0|0]|1]|6],(@nH _ _ (.int 8) _ _ ∅ T.m_MOST_AXES.choose_spec ⟨_,rfl⟩ ⋯),(ar _)|31],%[%[all,(eS rfl),%[%[(["axis", "thing"]),(1),(aC (aa gH) ["thing"] rfl rfl nofun),rfl,%[%[0|0]|19],(λ _ _ _ _ _=>%[0,["axis", "thing"]|51]),(λ _ _ _ _ _=>(@aG _)),(λ _ _ _ _ _=>%[Ja,%[%[0|0]|1]|3]),(by intros;rfl)|22]|1]|6]|36]|30]|30]|11]|10],?_⟩;rw [show az ["thing"] [.ref p]=[%[p|45]] from rfl];have hl:ys.length=axs.length:=by rw [al.1];unfold axL;rw [length_map]
  have a7:(axs.length:Int)<=8:=by have:=ha.1;omega
  ac_rfl;refine aV ys (λ _=>true) (λ _=>.bl true) (λ z x H'=>x=z/\H' p=some (.lst ys)) (xw hp).1 (xw hp).2 (ak %[0|8]) ?_ ?_
  ·intro D z x H' N1 N0 hz hD e ⟨hx,_⟩ k1 _;subst hx;obtain⟨i,hi,rfl⟩:=Ti hz;have aS:i < axs.length:=by rw [←hl];exact hi
   obtain⟨q,a3,a4⟩:=al.2 i [axs[i].1,axs[i].2] ys[i] (by unfold axL;rw [getElem?_map,getElem?_eq_getElem aS];rfl) (getElem?_eq_getElem hi);have hb:=ha.2 _ (getElem_mem aS);have a5:=k1 rfl H' (Ext.refl _);have a6:=e.at a4;rw [a3];clear k1 k hp al;simp! only [↓aL,↓aJ];rw [ET];exact⟨axs[i],a6,hb.1,hb.2,a5⟩
  ·intro D H' hD e aX;have a8:H' D=some (.lst ((ys.map λ _=>true).map V.bl)):=by rw [aX,ix,Se];rfl
   have e2:((ys.map λ _=>true).all id)=true:=by rw [Vh];simp
   have k2:=k H' e;clear k aX;ac_rfl
def cL{zs:List (List Int)}{ys:List V}{H:Hp}(al:Al (bE H) zs ys){i:Nat}{y:V}(h:ys[i]? = some y):∃ z,zs[i]? = some z/\bE H z y:=by
 have hi:i < ys.length:=(Rf.mp h).1;have hz:zs[i]? = some (zs[i]'(by rw [←al.1];exact hi)):=Rb _;exact⟨_,hz,al.2 i _ y hz h⟩
def yf(x:V)(b:Int)(H:Hp)(Q:VK):Bool->Prop:=λ _=>Q (.bl (gb x b)) H
def jN(x:V)(b:Int)(H:Hp)(Q:VK)(c:Bool):yf x b H Q c=Q (.bl (gb x b)) H:=rfl
def sI  : Sp:=λ vs H Q E=>∃ (x:V) (b:Int),vs=[x,.int b]/\(aH (isW H x) (yf x b H Q))
def lp  (x:V) (b:Int) (H:Hp) (Q:VK) (E:XK):sI  [x,.int b] H Q E=(aH (isW H x) (yf x b H Q)):=iu (f:=λ (x:V) (b:Int)=>[x,.int b]) (λ _ _ _ _ h=>by cases h;exact⟨rfl,rfl⟩) x b
def cE(T:Tx K mg t):%[2,tY|49] ["thing", "bound"] sI:=by
 have G_DX:=%[dH|44];refine T.F_tY.ok jv (λ _ _ _ _ h=>iw h λ _ _=>rfl) %[0|50]
 ·obtain⟨x,b,rfl,h⟩:=h;obtain⟨c,hw,k⟩:=ai h;rw [jN] at k;refine⟨_,%[%[%[%[DX,%[%[0|0]|1]|3],%[(@ql _ _ _ _ _ _ _ _ _ _ _ _ pJ vG %[0|2] %[0|0] %[1|0] ∅)|36]|30]|11]|10],?_⟩;rw [show az ["thing", "bound"] [x,.int b]=[some (x),%[b|47]] from rfl]
  cases x with
  | int i=>
   cases hw;have k':Q (.bl (decide (0<=i) && decide (i < b))) H:=k;clear k h
   by_cases h0:0<=i
   ·rw [Rp h0,Up] at k';simp! only [↓bK]
   ·rw [Ry h0,UE] at k';simp! only [↓bK]
  | bl i=>cases hw;have k':Q (.bl false) H:=k;clear k h;simp! only [↓bK]
  | non=>cases hw;have k':Q (.bl false) H:=k;clear k h;simp! only [↓bK]
  | str i=>cases hw;have k':Q (.bl false) H:=k;clear k h;simp! only [↓bK]
  | ref p=>
   obtain⟨rfl,o,ho,ht⟩:=jb hw;have k':Q (.bl false) H:=k;clear k h;simp! only [↓bK]
  | _=>cases hw
def kPl(x:V)(H:Hp)(Q:VK):List Int->Prop:=λ ns=>gc H x/\∀ H',Ext H H'->Q (.bl (dU ns x H)) H'
def vF(x:V)(H:Hp)(Q:VK)(ns:List Int):kPl x H Q ns=(gc H x/\∀ H',Ext H H'->Q (.bl (dU ns x H)) H'):=rfl
def kC  : Sp:=λ vs H Q E=>∃ (p:Addr) (x:V),vs=[.ref p,x]/\(aH (aA H p) (dR (kSz (kPl x H Q))))
def cM  (p:Addr) (x:V) (H:Hp) (Q:VK) (E:XK):kC  [.ref p,x] H Q E=(aH (aA H p) (dR (kSz (kPl x H Q)))):=iu (f:=λ (p:Addr) (x:V)=>[.ref p,x]) (λ _ _ _ _ h=>by cases h;exact⟨rfl,rfl⟩) p x
def lD(T:Tx K mg t):%[3,D8|49] ["sizes", "thing"] kC:=by
 have G_tY:=%[cE|44];refine T.F_D8.ok w6 (λ _ _ _ _ h=>iw h λ _ _=>rfl) %[0|50]
 ·obtain⟨p,x,rfl,h⟩:=h;obtain⟨a6,hp,ns,rfl,hs,hk,k⟩:=ai h;replace hp:=bj hp;refine⟨_,%[%[(PW.pt %[%[%[%[isinstance,bz,%[%[1|0],%[(@cY _ _ (.ty "tuple") (.type "tuple") _ ∅ T.z_tuple nofun rfl ⋯ ⋯)|1]|1]|6],(by intros;rfl)|28]|26],%[%[(dk hr.units),%[len,ao,%[%[1|0]|1]|6],%[len,ao,%[%[0|0]|1]|6],(ar _)|15]|34]|33]),%[%[(@dw _ _ _ _)|11]|10],(@au _)|17],%[%[%[all,(eS rfl),%[%[(["number", "size", "sizes", "thing"]),(2),(aC (aa gG) ["sizes", "thing"] rfl rfl nofun),rfl,%[∅,T.z_zip,%[%[1|0],%[%[0|0]|1]|1],∅,∅|39],(λ _ _ _ _ _=>(%[(2),rfl,%[%[0,["number", "size", "sizes", "thing"]|51],%[%[1,["number", "size", "sizes", "thing"]|51],(@aK _),∅|16],∅|16],∅,∅|25].mono λ _ _ _ _ h=>bX h)),(λ _ _ _ _ _=>(@aG _)),(λ _ _ _ _ _=>%[tY,%[%[0|0],%[%[1|0]|1]|1]|3]),(by intros;rfl)|22]|1]|6]|11]|10]|9],?_⟩;rw [show az ["sizes", "thing"] [.ref p,x]=[%[p|45],some (x)] from rfl]
  cases x with
  | int i=>have k':Q (.bl false) H:=k H (Ext.refl _);clear k h;ac_rfl
  | bl i=>have k':Q (.bl false) H:=k H (Ext.refl _);clear k h;ac_rfl
  | non=>have k':Q (.bl false) H:=k H (Ext.refl _);clear k h;ac_rfl
  | str i=>have k':Q (.bl false) H:=k H (Ext.refl _);clear k h;ac_rfl
  | ref q=>
   obtain⟨b,hb⟩:=Sv.mp hk.1;obtain⟨rfl,o,ho,ht⟩:=jb hb;have aX:dU ns (.ref q) H=j9 ns (some o):=by rw [←ho];rfl
   rw [aX] at k;clear aX h hb
   cases o with
   | tup xs=>
    by_cases hl:xs.length=ns.length
    ·have aS:j9 ns (some (.tup xs))=(xs.zip ns).all λ p=>gb p.1 p.2:=by show (decide _ && _)=_;rw [Rp hl,Up]
     rw [aS] at k;clear aS ht;ac_rfl;refine aV (xs.zip (ns.map V.int)) (λ _=>true) (λ z=>.bl (gb z.1 (vi z.2))) EX (jx (ka:=true) (kb:=false) ho hp).1 (jx (ka:=true) (kb:=false) ho hp).2 (of_eq_true (Ks _ (by have:=hs.1;rw [Tb,Rh];omega))) ?_ ?_
     ·intro D z y H' N1 N0 hz hD e ⟨r,a4,a7⟩ k1 _;subst a4;obtain⟨x0,n0⟩:=z;have hm:=Tg hz;obtain⟨n,_,rfl⟩:=Rj.mp hm.2;obtain⟨c,hc⟩:=Sv.mp (hk.2 q xs rfl ho x0 hm.1);have a8:=sO e hc;have a5:=k1 rfl H' (Ext.refl _);rw [show vi (V.int n,()).1=n from rfl] at a5;clear k1 k hc hm hz;simp! only [↓dB,↓aJ,↓lp,↓jN]
     ·intro D H' hD e a3
      have a9:H' D=some (.lst (((xs.zip ns).map λ p=>gb p.1 p.2).map V.bl)):=by
       rw [a3,ix,PD,Se,Se];rfl
      have k2:=k H' e;have e2:(((xs.zip ns).map λ p=>gb p.1 p.2).all id)=(xs.zip ns).all λ p=>gb p.1 p.2:=by rw [Vh];rfl
      clear k a3;ac_rfl
    ·have aS:j9 ns (some (.tup xs))=false:=by show (decide _ && _)=_;rw [Ry hl,UE]
     rw [aS] at k;have k':=k H (Ext.refl _);have bb:¬ ((xs.length:Int)=(ns.length:Int)):=by omega
     clear k aS;ac_rfl
   | lst xs=>have k':Q (.bl false) H:=k H (Ext.refl _);clear k;ac_rfl
   | dK xs=>have k':Q (.bl false) H:=k H (Ext.refl _);clear k;ac_rfl
   | dT xs=>have k':Q (.bl false) H:=k H (Ext.refl _);clear k ht;have ht:tyO (.dT xs)=some "dict":=rfl;ac_rfl
   | frz ob u=>
    cases u with
    | lst ys=>have k':Q (.bl false) H:=k H (Ext.refl _);clear k ht;have ht:tyO (.frz ob (.lst ys))=some "list":=rfl;ac_rfl
    | _=>rcases ht with ht|ht|ht<;>cases ht
   | _=>rcases ht with ht|ht|ht<;>cases ht
  | _=>cases hk.1
def JX(x:Int)(H:Hp)(Q:VK):List Int->Prop:=λ ns=>∀ (r:Addr) (H':Hp),H r=none->Ext H H'->H' r=some (.tup ((aj ns x).map V.int))->Q (.ref r) H'
def uk(x:Int)(H:Hp)(Q:VK)(ns:List Int):JX x H Q ns=∀ (r:Addr) (H':Hp),H r=none->Ext H H'->H' r=some (.tup ((aj ns x).map V.int))->Q (.ref r) H':=rfl
def sr  : Sp:=λ vs H Q E=>∃ (p:Addr) (x:Int),vs=[.ref p,.int x]/\(aH (aA H p) (dR (kSz (JX x H Q))))
def qE  (p:Addr) (x:Int) (H:Hp) (Q:VK) (E:XK):sr  [.ref p,.int x] H Q E=(aH (aA H p) (dR (kSz (JX x H Q)))):=iu (f:=λ (p:Addr) (x:Int)=>[.ref p,.int x]) (λ _ _ _ _ h=>by cases h;exact⟨rfl,rfl⟩) p x
def gw(T:Tx K mg t):%[1,wI|49] ["sizes", "number"] sr:=by
 refine T.F_wI.ok bY (λ _ _ _ _ h=>iw h λ _ _=>rfl) %[0|50]
 ·obtain⟨p,x,rfl,h⟩:=h;obtain⟨xs,hp,ns,rfl,hs,k⟩:=ai h;replace hp:=bj hp;rw [uk] at k;refine⟨_,%[%[2,bY,%[(@cU _)|18]|4],%[%[3,bY,%[1|0]|4],%[%[RA,rfl,(@Fh _ _ _ _ _ _ ∅ T.z_reversed %[%[0|0]|1] ∅),%[4,bY|5],%[%[%[RS,SU,SS,dD,%[2|0],%[%[Lr,%[3|0],%[4|0]|13]|1],∅,∅,∅,∅,∅|37],∅|20],%[%[3,bY,%[sL,%[3|0],%[4|0]|13]|4]|10]|9],(by intros;rfl)|21],%[%[(@x8 _ _ _ _ _ _ _ _ _ RS UC UB jn %[2|0] ∅ ∅),∅|20],%[%[%[ik,∅,T.z_tuple,nofun,%[%[2|0]|1],⋯,⋯,∅,∅|38]|11]|10]|9]|9]|9]|9],?_⟩;rw [show az ["sizes", "number", "place", "left", "size"] [.ref p,.int x]=[%[p|45],%[x|47],none,none,none] from rfl];ac_rfl;intro r H1 aS e1 h1;have aX:r ≠ p:=λ z=>by rw [z,hp] at aS;cases aS
  have a3:=e1.at hp
  try ac_rfl
  refine yL (xs:=ns.map V.int) (λ i σ H'=>∃ v:Option V,σ=[%[p|45],%[x|47],%[r|45],some (.int (x / ae (ns.drop (ns.length - i)))),v]/\Ext H H'/\H' r=some (.lst ((aj (ns.drop (ns.length - i)) x).reverse.map V.int))) ⟨none,by simp [ae],e1,by simpa [aj] using h1⟩ (λ i σ H' _ ⟨_,_,e,_⟩=>SqL.of (e.at hp)) ?_ ?_
  ·rintro i y _ H2 hi hx ⟨v,rfl,e2,h2⟩;rw [Rh] at hi hx;rw [Rq] at hx;obtain⟨z,hz,rfl⟩:=Rm.mp hx;have b1:=(hs.drop (ns.length - i)).prod;have b2:=hs.2 z (Rx hz);have e:=AV ns x i z hi hz %[0|8];have e':=sY ns x i z hi hz
   have a4:((aj (ns.drop (ns.length - i)) x).reverse).length < sizeLine:=by
    rw [Vc,bo];exact of_eq_true (Kr _ (by have:=hs.1;simp;omega))
   have z0:0 < z:=by omega
   have z1:z < 1073741824:=by omega
   clear b1 b2;simp! only [↓aD];exact⟨_,rfl,e2.put aS,by rw [SI];rfl⟩
  ·rintro _ H2 ⟨v,rfl,e2,h2⟩;rw [Rh,Nat.sub_self,VJ] at h2;ac_rfl;intro q H3 hq e3 h3;exact k q H3 ((e2.put aS).free hq) ((e2.put aS).trans e3) (by rw [h3,←VG,List.reverse_reverse])
def N3(H:Hp)(Q:VK):List Int->Prop:=λ ns=>∀ (r:Addr) (H':Hp),H r=none->Ext H H'->H' r=some (.lst ((fO ns).map V.int))->Q (.ref r) H'
def E3(H:Hp)(Q:VK)(ns:List Int):N3 H Q ns=∀ (r:Addr) (H':Hp),H r=none->Ext H H'->H' r=some (.lst ((fO ns).map V.int))->Q (.ref r) H':=rfl
def sy  : Sp:=λ vs H Q E=>∃ (p:Addr),vs=[.ref p]/\(aH (aA H p) (dR (kSz (N3 H Q))))
def BC  (p:Addr) (H:Hp) (Q:VK) (E:XK):sy  [.ref p] H Q E=(aH (aA H p) (dR (kSz (N3 H Q)))):=lZ (f:=λ (p:Addr)=>[.ref p]) (λ _ _ h=>by cases h;exact rfl) p
def tG(T:Tx K mg t):%[1,DZ|49] ["sizes"] sy:=by
 refine T.F_DZ.ok eX (λ _ _ _ _ h=>lX h λ _=>rfl) %[0|50]
 ·obtain⟨p,rfl,h⟩:=h;obtain⟨xs,hp,ns,rfl,hs,k⟩:=ai h;replace hp:=bj hp;rw [E3] at k;refine⟨_,%[%[1,eX,%[(@cU _)|18]|4],%[%[2,eX,%[0|2]|4],%[%[RA,rfl,(@Fh _ _ _ _ _ _ ∅ T.z_reversed %[%[0|0]|1] ∅),%[3,eX|5],%[%[%[RS,SU,SS,dD,%[1|0],%[%[2|0]|1],∅,∅,∅,∅,∅|37],∅|20],%[%[2,eX,%[yF,%[2|0],%[3|0]|13]|4]|10]|9],(by intros;rfl)|21],%[%[(@x8 _ _ _ _ _ _ _ _ _ RS UC UB jn %[1|0] ∅ ∅),∅|20],%[%[%[1|0]|11]|10]|9]|9]|9]|9],?_⟩;rw [show az ["sizes", "paces", "pace", "size"] [.ref p]=[%[p|45],none,none,none] from rfl];ac_rfl;intro r H1 aS e1 h1;have aX:=e1.at hp;have a3:r ≠ p:=λ z=>by rw [z,hp] at aS;cases aS
  ac_rfl;refine yL (xs:=ns.map V.int) (λ i σ H'=>∃ v:Option V,σ=[%[p|45],%[r|45],some (.int (ae (ns.drop (ns.length - i)))),v]/\Ext H H'/\H' r=some (.lst ((fO (ns.drop (ns.length - i))).reverse.map V.int))) ⟨none,by simp [ae],e1,by simpa [fO] using h1⟩ (λ i σ H' _ ⟨_,_,e,_⟩=>SqL.of (e.at hp)) ?_ ?_
  ·rintro i x _ H2 hi hx ⟨v,rfl,e2,h2⟩;rw [Rh] at hi hx;rw [Rq] at hx;obtain⟨z,hz,rfl⟩:=Rm.mp hx;have e:=mM ns i z hi hz;have e':=tE ns i z hi hz;have b1:=(hs.drop (ns.length - i)).prod;have b2:=hs.2 z (Rx hz)
   have a4:((fO (ns.drop (ns.length - i))).reverse).length < sizeLine:=by
    rw [Vc,mN];exact of_eq_true (Kr _ (by have:=hs.1;simp;omega))
   have c1:(ae (ns.drop (ns.length - i))).natAbs < 2 ^ 256:=by
    generalize ae (ns.drop (ns.length - i))=y at b1;have:(1000000000:Int) ^ 8 < 2 ^ 256:=by decide
    omega
   have c2:z.natAbs < 2 ^ 256:=by omega
   clear b1 b2;simp! only [↓aD,vb];exact⟨_,rfl,e2.put aS,by rw [SI];rfl⟩
  ·rintro _ H2 ⟨v,rfl,e2,h2⟩;rw [Rh,Nat.sub_self,VJ] at h2;ac_rfl;exact k r _ aS (e2.put aS) (by rw [aq,←VG,List.reverse_reverse])
def kB  : Sp:=λ vs H Q E=>∃ (p:Addr) (i:Int),vs=[.ref p,.int i]/\(∃ ns:List Int,H p=%[ns|46]/\dA ns/\0<=i/\i < ae ns/\JX i H Q ns)
def lI  (p:Addr) (i:Int) (H:Hp) (Q:VK) (E:XK):kB  [.ref p,.int i] H Q E=(∃ ns:List Int,H p=%[ns|46]/\dA ns/\0<=i/\i < ae ns/\JX i H Q ns):=iu (f:=λ (p:Addr) (i:Int)=>[.ref p,.int i]) (λ _ _ _ _ h=>by cases h;exact⟨rfl,rfl⟩) p i
def tF(T:Tx K mg t):%[3,D9|49] ["sizes", "number"] kB:=by
 have G_DY:=%[ft|44];have G_tY:=%[cE|44];have G_wI:=%[gw|44];refine T.F_D9.ok w4 (λ _ _ _ _ h=>iw h λ _ _=>rfl) %[0|50]
 ·obtain⟨p,i,rfl,ns,hp,hs,i0,i1,k1⟩:=h
  have aS:gb (.int i) (ae ns)=true:=by
   show (decide (0<=i) && decide (i < ae ns))=true
   rw [Rp i0,Rp i1];rfl
  refine⟨_,%[%[%[%[%[tY,%[%[1|0],%[%[DY,%[%[0|0]|1]|3]|1]|1]|3],(by intros;rfl)|28]|26],%[(@b7 _ _)|10],(@au _)|17],%[%[%[wI,%[%[0|0],%[%[1|0]|1]|1]|3]|11]|10]|9],?_⟩;rw [show az ["sizes", "number"] [.ref p,.int i]=[%[p|45],%[i|47]] from rfl];simp! only [↓iM,↓iY,↓pK,↓lp,↓jN,↓qE]
abbrev vh(cT:Addr)(n:Int)(H:Hp)(Q:VK)(E:XK):Prop:=(n<=4096->Q .non H)/\¬ 4096 < n
def xI(cT:Addr):Sp:=λ vs H Q E=>∃ (n:Int),vs=[.int n]/\(vh cT n H Q E)
def oH(cT:Addr)(n:Int)(H:Hp)(Q:VK)(E:XK):xI cT [.int n] H Q E=(vh cT n H Q E):=lZ (f:=λ (n:Int)=>[.int n]) (λ _ _ h=>by cases h;exact rfl) n
def eI(T:Tx K mg t):%[3,A0|49] ["count"] (xI t.a_VT):=by
 refine T.F_A0.ok px (λ _ _ _ _ h=>lX h λ _=>rfl) %[0|50]
 ·obtain⟨n,rfl,k1,hn⟩:=h;refine⟨_,%[%[%[ny,%[0|0],(@nH _ _ (.int 4096) _ _ ∅ T.m_MOST_TOLD.choose_spec ⟨_,rfl⟩ ⋯),(ar _)|15],%[(@b7 _ _)|10],(@au _)|17]|10],?_⟩;rw [show az ["count"] [.int n]=[%[n|47]] from rfl];have aS:=k1 %[0|8];clear k1;ac_rfl
def Qb(x:Int):min 0 x=if x < 0 then x else 0:=by split<;>omega
def Qc(x:Int):max 0 x=if 0 < x then x else 0:=by split<;>omega
structure aE(C:Addr)(H:Hp)(v:Addr)(room first:Int)(axs:%[0|48]):Prop where
 ob:∃ dx l,H v=some (.ins C dx (fT room first l))/\aR H l (axL axs)
def aE.ext{C:Addr}{H H':Hp}{v:Addr}{room first:Int}{axs:%[0|48]}(h:aE C H v room first axs)(e:Ext H H'):aE C H' v room first axs:=by
 obtain⟨dx,l,h1,h2⟩:=h.ob;exact⟨⟨dx,l,e.at h1,h2.ext e⟩⟩
def FZ{m:Str}(h:m∈([("sizes":Str), "paces", "count", "cell", "cell_at", "cells", "least", "greatest"]:List Str)):¬ m = "axes" /\ ¬ m = "first" /\ ¬ m = "room":=by
 revert m
 decide +kernel
def vn(room first:Int)(l:Addr){m:Str}(h:m∈([("sizes":Str), "paces", "count", "cell", "cell_at", "cells", "least", "greatest"]:List Str)):(fT room first l).lookup m=none:=Cm room first l (FZ h).1 (FZ h).2.1 (FZ h).2.2
def Py{H:Hp}{axs:%[0|48]}{ys:List V}(al:Al (bE H) (axL axs) ys){i:Nat}{y:V}(h:ys[i]? = some y):∃ a q,axs[i]? = some a/\y=.ref q/\H q=some (.tup [.int a.1,.int a.2]):=by
 obtain⟨z,hz,q,hq,aS⟩:=cL al h;unfold axL at hz;rw [getElem?_map] at hz;obtain⟨a,ha,rfl⟩:=Option.map_eq_some_iff.mp hz;exact⟨a,q,ha,hq,aS⟩
abbrev qT(C:Addr)(v:Addr)(H:Hp)(Q:VK)(E:XK):Prop:=∃ (room first:Int) (axs:%[0|48]),aE C H v room first axs/\fM axs/\∀ H',Ext H H'->Q (.int (first+bw axs)) H'
def nC(C:Addr):Sp:=λ vs H Q E=>∃ (v:Addr),vs=[.ref v]/\(qT C v H Q E)
def BF(C:Addr)(v:Addr)(H:Hp)(Q:VK)(E:XK):nC C [.ref v] H Q E=(qT C v H Q E):=lZ (f:=λ (v:Addr)=>[.ref v]) (λ _ _ h=>by cases h;exact rfl) v
def oX(T:Tx K mg t):%[1,Bc|49] ["self"] (nC t.a_V3):=by
 refine T.F_Bc.ok rL (λ _ _ _ _ h=>lX h λ _=>rfl) %[0|50]
 ·obtain⟨v,rfl,room,first,axs,vo,aS,k⟩:=h;obtain⟨dx,l,hv,ys,hl,al⟩:=vo.ob;have c1:=T.cl_View;have c2:=T.na_View_first;have c3:=T.na_View_axes
  have f1:=fh room first l
  have f2:=cJ room first l
  refine⟨_,%[%[%[cv,%[%[0|0],rfl|27],%[sum,(gh rfl),%[%[(["size", "pace", "self"]),(2),(aC (aa ef) ["self"] rfl rfl nofun),rfl,%[%[%[0|0],rfl|27]|19],(λ _ _ _ _ _=>(%[(2),rfl,%[%[0,["size", "pace", "self"]|51],%[%[1,["size", "pace", "self"]|51],(@aK _),∅|16],∅|16],∅,∅|25].mono λ _ _ _ _ h=>bX h)),(λ _ _ _ _ _=>(@aG _)),(λ _ _ _ _ _=>%[min,(qC rfl),%[%[0|2],%[%[eM,%[eL,%[0|0],%[0|2]|13],%[1|0]|13]|1]|1]|6]),(by intros;rfl)|22]|1]|6]|13]|11]|10],?_⟩;rw [show az ["self"] [.ref v]=[%[v|45]] from rfl];ac_rfl;have wk:=dv (K:=K) (R:=axP) (λ _ _ _ _ h e=>h.ext e) hl (ke al);refine aV axs (λ _=>true) (λ a=>.int (min 0 ((a.1 - 1) * a.2))) axP wk.1 wk.2 (ak (by have:=aS.1;omega)) ?_ ?_
  ·intro D a x H' N1 N0 ha hD e ⟨q,hx,hq⟩ k1 _;subst hx;have hb:=aS.2 a ha;have a3:=k1 rfl H' (Ext.refl _);have a4:pI (a.1 - 1) a.2:=.inl ⟨by omega,by omega⟩;rw [Qb] at a3;clear k1 k;simp! only [↓dB,↓aJ]
  ·intro D H' hD e aX;have a5:H' D=some (.lst ((axs.map λ a=>min 0 ((a.1 - 1) * a.2)).map V.int)):=by rw [aX,ix,Se];rfl
   have k2:Q (.int (first+(axs.map λ a=>min 0 ((a.1 - 1) * a.2)).sum)) H':=k H' e;clear k aX;ac_rfl
abbrev jD(C:Addr)(v:Addr)(H:Hp)(Q:VK)(E:XK):Prop:=∃ (room first:Int) (axs:%[0|48]),aE C H v room first axs/\fM axs/\∀ H',Ext H H'->Q (.int (first+aY axs)) H'
def jd(C:Addr):Sp:=λ vs H Q E=>∃ (v:Addr),vs=[.ref v]/\(jD C v H Q E)
def rG(C:Addr)(v:Addr)(H:Hp)(Q:VK)(E:XK):jd C [.ref v] H Q E=(jD C v H Q E):=lZ (f:=λ (v:Addr)=>[.ref v]) (λ _ _ h=>by cases h;exact rfl) v
def jL(T:Tx K mg t):%[1,wD|49] ["self"] (jd t.a_V3):=by
 refine T.F_wD.ok lU (λ _ _ _ _ h=>lX h λ _=>rfl) %[0|50]
 ·obtain⟨v,rfl,room,first,axs,vo,aS,k⟩:=h;obtain⟨dx,l,hv,ys,hl,al⟩:=vo.ob;have c1:=T.cl_View;have c2:=T.na_View_first;have c3:=T.na_View_axes
  have f1:=fh room first l
  have f2:=cJ room first l
  refine⟨_,%[%[%[cv,%[%[0|0],rfl|27],%[sum,(gh rfl),%[%[(["size", "pace", "self"]),(2),(aC (aa cB) ["self"] rfl rfl nofun),rfl,%[%[%[0|0],rfl|27]|19],(λ _ _ _ _ _=>(%[(2),rfl,%[%[0,["size", "pace", "self"]|51],%[%[1,["size", "pace", "self"]|51],(@aK _),∅|16],∅|16],∅,∅|25].mono λ _ _ _ _ h=>bX h)),(λ _ _ _ _ _=>(@aG _)),(λ _ _ _ _ _=>%[max,(lh rfl),%[%[0|2],%[%[eM,%[eL,%[0|0],%[0|2]|13],%[1|0]|13]|1]|1]|6]),(by intros;rfl)|22]|1]|6]|13]|11]|10],?_⟩;rw [show az ["self"] [.ref v]=[%[v|45]] from rfl];ac_rfl;have wk:=dv (K:=K) (R:=axP) (λ _ _ _ _ h e=>h.ext e) hl (ke al);refine aV axs (λ _=>true) (λ a=>.int (max 0 ((a.1 - 1) * a.2))) axP wk.1 wk.2 (ak (by have:=aS.1;omega)) ?_ ?_
  ·intro D a x H' N1 N0 ha hD e ⟨q,hx,hq⟩ k1 _;subst hx;have hb:=aS.2 a ha;have a3:=k1 rfl H' (Ext.refl _);have a4:pI (a.1 - 1) a.2:=.inl ⟨by omega,by omega⟩;rw [Qc] at a3;clear k1 k;simp! only [↓dB,↓aJ]
  ·intro D H' hD e aX;have a5:H' D=some (.lst ((axs.map λ a=>max 0 ((a.1 - 1) * a.2)).map V.int)):=by rw [aX,ix,Se];rfl
   have k2:Q (.int (first+(axs.map λ a=>max 0 ((a.1 - 1) * a.2)).sum)) H':=k H' e;clear k aX;ac_rfl
def Qd(H:Hp)(Q:VK)(f:Int × Int->Int)(axs:%[0|48]):Prop:=∀ (r:Addr) (H':Hp),H r=none->Ext H H'->H' r=some (.lst ((axs.map f).map V.int))->Q (.ref r) H'
abbrev m7(C:Addr)(v:Addr)(H:Hp)(Q:VK)(E:XK):Prop:=∃ (room first:Int) (axs:%[0|48]),aE C H v room first axs/\axs.length<=8/\Qd H Q (λ a=>a.1) axs
def nW(C:Addr):Sp:=λ vs H Q E=>∃ (v:Addr),vs=[.ref v]/\(m7 C v H Q E)
def bA(C:Addr)(v:Addr)(H:Hp)(Q:VK)(E:XK):nW C [.ref v] H Q E=(m7 C v H Q E):=lZ (f:=λ (v:Addr)=>[.ref v]) (λ _ _ h=>by cases h;exact rfl) v
def aZ(T:Tx K mg t):%[1,A8|49] ["self"] (nW t.a_V3):=by
 refine T.F_A8.ok rJ (λ _ _ _ _ h=>lX h λ _=>rfl) %[0|50]
 ·obtain⟨v,rfl,room,first,axs,vo,aX,k⟩:=h;obtain⟨dx,l,hv,ys,hl,al⟩:=vo.ob;have c1:=T.cl_View;have c3:=T.na_View_axes
  have f2:=cJ room first l
  refine⟨_,%[%[%[(["size", "pace", "self"]),(2),(aC (aa ed) ["self"] rfl rfl nofun),rfl,%[%[%[0|0],rfl|27]|19],(λ _ _ _ _ _=>(%[(2),rfl,%[%[0,["size", "pace", "self"]|51],%[%[1,["size", "pace", "self"]|51],(@aK _),∅|16],∅|16],∅,∅|25].mono λ _ _ _ _ h=>bX h)),(λ _ _ _ _ _=>(@aG _)),(λ _ _ _ _ _=>%[0|0]),(by intros;rfl)|22]|11]|10],?_⟩;rw [show az ["self"] [.ref v]=[%[v|45]] from rfl];ac_rfl;have wk:=dv (K:=K) (R:=axP) (λ _ _ _ _ h e=>h.ext e) hl (ke al);refine aV axs (λ _=>true) (λ a=>.int a.1) axP wk.1 wk.2 (ak %[0|8]) ?_ ?_
  ·intro D a x H' N1 N0 ha hD e ⟨q,hx,hq⟩ k1 _;subst hx;have a3:=k1 rfl H' (Ext.refl _);clear k1 k;simp! only [↓dB,↓aJ]
  ·intro D H' hD e aS;exact k D H' hD e (by rw [aS,ix,Se];rfl)
abbrev m9(C:Addr)(v:Addr)(H:Hp)(Q:VK)(E:XK):Prop:=∃ (room first:Int) (axs:%[0|48]),aE C H v room first axs/\axs.length<=8/\Qd H Q (λ a=>a.2) axs
def nX(C:Addr):Sp:=λ vs H Q E=>∃ (v:Addr),vs=[.ref v]/\(m9 C v H Q E)
def wW(C:Addr)(v:Addr)(H:Hp)(Q:VK)(E:XK):nX C [.ref v] H Q E=(m9 C v H Q E):=lZ (f:=λ (v:Addr)=>[.ref v]) (λ _ _ h=>by cases h;exact rfl) v
def oW(T:Tx K mg t):%[1,A9|49] ["self"] (nX t.a_V3):=by
 refine T.F_A9.ok rK (λ _ _ _ _ h=>lX h λ _=>rfl) %[0|50]
 ·obtain⟨v,rfl,room,first,axs,vo,aX,k⟩:=h;obtain⟨dx,l,hv,ys,hl,al⟩:=vo.ob;have c1:=T.cl_View;have c3:=T.na_View_axes
  have f2:=cJ room first l
  refine⟨_,%[%[%[(["size", "pace", "self"]),(2),(aC (aa ee) ["self"] rfl rfl nofun),rfl,%[%[%[0|0],rfl|27]|19],(λ _ _ _ _ _=>(%[(2),rfl,%[%[0,["size", "pace", "self"]|51],%[%[1,["size", "pace", "self"]|51],(@aK _),∅|16],∅|16],∅,∅|25].mono λ _ _ _ _ h=>bX h)),(λ _ _ _ _ _=>(@aG _)),(λ _ _ _ _ _=>%[1|0]),(by intros;rfl)|22]|11]|10],?_⟩;rw [show az ["self"] [.ref v]=[%[v|45]] from rfl];ac_rfl;have wk:=dv (K:=K) (R:=axP) (λ _ _ _ _ h e=>h.ext e) hl (ke al);refine aV axs (λ _=>true) (λ a=>.int a.2) axP wk.1 wk.2 (ak %[0|8]) ?_ ?_
  ·intro D a x H' N1 N0 ha hD e ⟨q,hx,hq⟩ k1 _;subst hx;have a3:=k1 rfl H' (Ext.refl _);clear k1 k;simp! only [↓dB,↓aJ]
  ·intro D H' hD e aS;exact k D H' hD e (by rw [aS,ix,Se];rfl)
abbrev nc(C:Addr)(v:Addr)(H:Hp)(Q:VK)(E:XK):Prop:=∃ (room first:Int) (axs:%[0|48]),aE C H v room first axs/\fM axs/\∀ H',Ext H H'->Q (.int (ae (axs.map λ a=>a.1))) H'
def nY(C:Addr):Sp:=λ vs H Q E=>∃ (v:Addr),vs=[.ref v]/\(nc C v H Q E)
def jr(C:Addr)(v:Addr)(H:Hp)(Q:VK)(E:XK):nY C [.ref v] H Q E=(nc C v H Q E):=lZ (f:=λ (v:Addr)=>[.ref v]) (λ _ _ h=>by cases h;exact rfl) v
def fK(T:Tx K mg t):%[2,Ba|49] ["self"] (nY t.a_V3):=by
 have G_A8:=%[aZ|44];have G_DY:=%[ft|44];refine T.F_Ba.ok rM (λ _ _ _ _ h=>lX h λ _=>rfl) %[0|50]
 ·obtain⟨v,rfl,room,first,axs,vo,aS,k⟩:=h;obtain⟨dx,l,hv,_⟩:=vo.ob
  have f3:=vn room first l (m := "sizes") nofun
  refine⟨_,%[%[%[DY,%[%[%[0|0],T.cl_View,T.mt_View_sizes,G_A8,(hr.mono ⋯),T.b_A8,.nil,aW,∅|23]|1]|3]|11]|10],?_⟩;rw [show az ["self"] [.ref v]=[%[v|45]] from rfl];ac_rfl;rw [bA];refine⟨room,first,axs,vo,aS.1,λ r H' aX e h'=>?_⟩;have k':=k H' e;have hsz:=aS.sizes;clear k;simp! only [↓iM,↓iY,↓pK]
def sk(C:Addr):Sp:=λ vs H Q E=>∃ (x:Addr) (room:Int) (first:Int) (l:Addr),vs=[.ref x,.int room,.int first,.ref l]/\(∃ (dx:Addr) (axs:%[0|48]),H x=some (.ins C dx [])/\aR H l (axL axs)/\uB room first axs/\∀ (H':Hp) (D:Addr),(∀ H0,Ext H0 H->H0 x=none->Ext H0 H')->H D=none->H' x=some (.ins C dx (fT room first D))->aR H' D (axL (axs.map aN))->Q .non H')
def ll(C:Addr)(x:Addr)(room:Int)(first:Int)(l:Addr)(H:Hp)(Q:VK)(E:XK):sk C [.ref x,.int room,.int first,.ref l] H Q E=(∃ (dx:Addr) (axs:%[0|48]),H x=some (.ins C dx [])/\aR H l (axL axs)/\uB room first axs/\∀ (H':Hp) (D:Addr),(∀ H0,Ext H0 H->H0 x=none->Ext H0 H')->H D=none->H' x=some (.ins C dx (fT room first D))->aR H' D (axL (axs.map aN))->Q .non H'):=NF (f:=λ (x:Addr) (room:Int) (first:Int) (l:Addr)=>[.ref x,.int room,.int first,.ref l]) (λ _ _ _ _ _ _ _ _ h=>by cases h;exact⟨rfl,rfl,rfl,rfl⟩) x room first l
def fS(T:Tx K mg t):%[6,wC|49] ["self", "room", "first", "axes"] (sk t.a_V3):=by
 have G_DM:=%[jA|44];have G_DX:=%[dH|44];have G_Ea:=%[tI|44];have G_DN:=%[rh|44];have G_Bc:=%[oX|44];have G_wD:=%[jL|44];refine T.F_wC.ok lV (λ _ _ _ _ h=>NG h λ _ _ _ _=>rfl) %[0|50]
 ·obtain⟨x,room,first,l,rfl,dx,axs,hx,tl,aS,k⟩:=h;have c1:=T.cl_View;have c2:=T.na_View_first;have c3:=T.na_View_axes;have c4:=T.na_View_room;refine⟨_,%[%[(PW.pt %[%[%[%[DM,%[%[1|0],%[%[0|2],%[(@nH _ _ (.int 1000000000000000000) _ _ ∅ T.m_MOST_ROOM.choose_spec ⟨_,rfl⟩ ⋯)|1]|1]|1]|3],(by intros;rfl)|28]|26],%[%[%[%[DX,%[%[2|0]|1]|3],(by intros;rfl)|28]|26],%[%[%[%[Ea,%[%[3|0]|1]|3],(by intros;rfl)|28]|26]|34]|33]|33]),%[(@b7 _ _)|10],(@au _)|17],%[(@jQ _ _ _ _ _ _ _ _ %[0|0] %[1|0] rfl),%[(@jQ _ _ _ _ _ _ _ _ %[0|0] %[2|0] rfl),%[(@jQ _ _ _ _ _ _ _ _ %[0|0] %[(["axis", "self", "room", "first", "axes"]),(1),(aC (aa cC) ["self", "room", "first", "axes"] rfl rfl nofun),rfl,%[%[3|0]|19],(λ _ _ _ _ _=>%[0,["axis", "self", "room", "first", "axes"]|51]),(λ _ _ _ _ _=>(@aG _)),(λ _ _ _ _ _=>%[DN,%[%[0|0]|1]|3]),(by intros;rfl)|22] rfl),%[%[(PW.pt %[%[vG,%[%[0|0],T.cl_View,T.mt_View_least,G_Bc,(hr.mono ⋯),T.b_Bc,.nil,aW,∅|23],%[0|2],(ar _)|15],%[%[Km,%[%[0|0],T.cl_View,T.mt_View_greatest,G_wD,(hr.mono ⋯),T.b_wD,.nil,aW,∅|23],%[1|0],(ar _)|15]|34]|33]),%[(@b7 _ _)|10],(@au _)|17]|10]|9]|9]|9]|9],?_⟩;rw [show az ["self", "room", "first", "axes"] [.ref x,.int room,.int first,.ref l]=[%[x|45],%[room|47],%[first|47],%[l|45]] from rfl];have r1:=aS.r1;have r2:=aS.r2;simp! only [↓mY,↓bK];rw [EU];refine⟨axs,tl,aS.ax,λ H1 e1=>?_⟩;have a3:=e1.at hx;have b1:=tl.ext e1;clear hx tl;ac_rfl;refine⟨(show (1:Nat) < 1000 by decide),?_⟩;obtain⟨ys,aX,a8⟩:=b1;have b5:l ≠ x:=λ z=>by rw [z,a3] at aX;cases aX
  have a4:(upd H1 x (HO.ins t.a_V3 dx (fV "first" (V.int first) (fV "room" (V.int room) [])))) x=some (HO.ins t.a_V3 dx (fV "first" (V.int first) (fV "room" (V.int room) []))):=aq
  have a9:(upd H1 x (HO.ins t.a_V3 dx (fV "first" (V.int first) (fV "room" (V.int room) [])))) l=some (.lst ys):=by rw [ah b5];exact aX
  have bb:Al (λ a y=>axP a y (upd H1 x (HO.ins t.a_V3 dx (fV "first" (V.int first) (fV "room" (V.int room) []))))) axs ys:=(ke a8).imp λ a y ⟨q,hy,hq⟩=>⟨q,hy,by rw [ah (λ z=>by rw [z,a3] at hq;cases hq)];exact hq⟩;have b2:∀ H0,Ext H0 H->H0 x=none->Ext H0 (upd H1 x (HO.ins t.a_V3 dx (fV "first" (V.int first) (fV "room" (V.int room) [])))):=λ H0 q0 q1=>(q0.trans e1).put q1
  have b3:∀ b,b ≠ x->(upd H1 x (HO.ins t.a_V3 dx (fV "first" (V.int first) (fV "room" (V.int room) [])))) b=none->H b=none:=λ b hb q=>by rw [ah hb] at q;exact e1.free q
  generalize upd H1 x (HO.ins t.a_V3 dx (fV "first" (V.int first) (fV "room" (V.int room) [])))=H2 at a4 a9 bb b2 b3;clear aX a8 a3;ac_rfl;have wk:=dv (K:=K) (R:=axP) (λ _ _ _ _ h e=>h.ext e) a9 bb;refine iH axs (λ _=>true) axP (λ D a y H'=>∃ q,y=.ref q/\q ≠ D/\H' q=some (.tup [.int (aN a).1,.int (aN a).2])) wk.1 wk.2 (λ D _ y H1 H2 ⟨q,h1,h2,h3⟩ e=>⟨q,h1,h2,e.at h3⟩) (λ D _ y H1 o ⟨q,h1,h2,h3⟩=>⟨q,h1,h2,by rw [ah h2];exact h3⟩) (ak (by have:=aS.ax.1;omega)) ?_ ?_
  ·intro D a y H' N1 N0 ha hD e ⟨c0,bt⟩ ⟨q,hy,hq⟩ k1 _;subst hy;have cb:=k1 rfl;clear k1 k;simp! only [↓aL,↓aJ];rw [ER];exact⟨a,hq,λ r cf bx e' h'=>cb _ cf e' ⟨r,rfl,(λ z=>by rw [z,bt] at bx;cases bx),h'⟩⟩
  ·intro D zs H3 hD e3 cm a5;rw [ix] at a5;have cF:=e3.at a4;have bS:D ≠ x:=λ z=>by rw [z,a4] at hD;cases hD
   clear wk;ac_rfl;refine⟨(show (2:Nat) < 1000 by decide),?_⟩
   have tt:aR (upd H3 x (HO.ins t.a_V3 dx (fT room first D))) D (axL (axs.map aN)):=by
    refine⟨zs,by rw [ah bS];exact cm,?_,λ i z y hz hy=>?_⟩
    ·rw [a5.1];unfold axL;rw [length_map,length_map]
    ·unfold axL at hz;rw [map_map,getElem?_map] at hz;obtain⟨a,ha,rfl⟩:=Option.map_eq_some_iff.mp hz;obtain⟨q,cS,_,a6⟩:=a5.2 i a y ha hy;exact⟨q,cS,by rw [ah (λ z=>by rw [z,cF] at a6;cases a6)];exact a6⟩
   have b4:∀ H0,Ext H0 H->H0 x=none->Ext H0 (upd H3 x (HO.ins t.a_V3 dx (fT room first D))):=λ H0 q0 q1=>((b2 H0 q0 q1).trans e3).put q1;have a7:(upd H3 x (HO.ins t.a_V3 dx (fT room first D))) x=some (HO.ins t.a_V3 dx (fT room first D)):=aq
   have f1:=vn room first D (m := "least") nofun
   have f2:=vn room first D (m := "greatest") nofun
   refine⟨f1,?_⟩
   show nC t.a_V3 [V.ref x] (upd H3 x (HO.ins t.a_V3 dx (fT room first D))) _ _
   generalize upd H3 x (HO.ins t.a_V3 dx (fT room first D))=H4 at tt b4 a7
   have vo:aE t.a_V3 H4 x room first (axs.map aN):=⟨dx,D,a7,tt⟩
   rw [BF];refine⟨room,first,axs.map aN,vo,aS.ax.kept,λ H5 e5=>?_⟩
   have c5:¬ first+bw (axs.map aN) < 0:=by have:=aS.lo;omega
   have cT:=e5.at a7;ac_rfl;rw [rG];refine⟨room,first,axs.map aN,vo.ext e5,aS.ax.kept,λ H6 e6=>?_⟩
   have c6:¬ room<=first+aY (axs.map aN):=by have:=aS.hi;omega
   have k':=k H6 D (λ H0 q0 q1=>((b4 H0 q0 q1).trans e5).trans e6) (b3 D bS hD) (e6.at cT) ((tt.ext e5).ext e6);clear k;ac_rfl
def mH(cs:List Int)(a:Int × Int)(i:Nat)(c:Int)(h:cs[i]? = some c):bG (cs.take (i+1)) a=bG (cs.take i) a++(List.range a.1.toNat).map λ (n:Nat)=>c+(n:Int) * a.2:=by
 unfold bG;rw [take_add_one,h,List.flatMap_append];simp
abbrev lK  (p:Addr) (z:Int) (pc:Int) (H:Hp) (Q:VK) (E:XK):Prop:=∃ cs:List Int,H p=%[cs|46]/\1<=z/\cs.length * z.toNat<=4096/\z<=1000000000/\∀ (r:Addr) (H':Hp),H r=none->Ext H H'->H' r=some (.lst ((bG cs (z,pc)).map V.int))->Q (.ref r) H'
def kA  : Sp:=λ vs H Q E=>∃ (p:Addr) (z:Int) (pc:Int),vs=[.ref p,.int z,.int pc]/\(lK  p z pc H Q E)
def t7  (p:Addr) (z:Int) (pc:Int) (H:Hp) (Q:VK) (E:XK):kA  [.ref p,.int z,.int pc] H Q E=(lK  p z pc H Q E):=xf (f:=λ (p:Addr) (z:Int) (pc:Int)=>[.ref p,.int z,.int pc]) (λ _ _ _ _ _ _ h=>by cases h;exact⟨rfl,rfl,rfl⟩) p z pc
def vX(T:Tx K mg t):%[1,Jb|49] ["cells", "size", "pace"] kA:=by
 refine T.F_Jb.ok lj (λ _ _ _ _ h=>xg h λ _ _ _=>rfl) %[0|50]
 ·obtain⟨p,z,pc,rfl,cs,hp,hz,a5,a6,k⟩:=h;refine⟨_,%[%[3,lj,%[(@cU _)|18]|4],%[%[RA,rfl,%[%[0|0]|19],%[(4),_,lj.nd,rfl,(Or.inr rfl),%[0|7]|14],%[%[%[RS,TK,TJ,iK,%[3|0],%[%[(["number", "cells", "size", "pace", "found", "cell"]),(1),(aC (aa iI) ["cells", "size", "pace", "found", "cell"] rfl rfl nofun),rfl,%[∅,T.z_range,%[%[1|0]|1],∅|32],(λ _ _ _ _ _=>%[0,["number", "cells", "size", "pace", "found", "cell"]|51]),(λ _ _ _ _ _=>(@aG _)),(λ _ _ _ _ _=>%[cv,%[5|0],%[eM,%[0|0],%[3|0]|13]|13]),(by intros;rfl)|22]|1],∅,∅,∅,∅,∅|37],∅|20]|10],(by intros;rfl)|21],%[%[%[3|0]|11]|10]|9]|9],?_⟩;rw [show az ["cells", "size", "pace", "found", "cell"] [.ref p,.int z,.int pc]=[%[p|45],%[z|47],%[pc|47],none,none] from rfl];ac_rfl;intro r H1 aS e1 h1;have a7:=e1.at hp;ac_rfl;refine cw (xs:=cs.map V.int) (λ i σ H'=>∃ v4:Option V,σ=[%[p|45],%[z|47],%[pc|47],%[r|45],v4]/\Ext H H'/\H' r=some (.lst ((bG (cs.take i) (z,pc)).map V.int))) ⟨none,rfl,e1,h1⟩ (λ i σ H' _ ⟨_,_,e,_⟩=>e.at hp) ?_ ?_
  ·rintro i x _ H2 hi ⟨v4,rfl,e2,h2⟩;rw [Rq] at hi;obtain⟨c,hc,rfl⟩:=Rm.mp hi;have a8:i < cs.length:=(Rf.mp hc).1
   have a9:z.toNat<=4096:=by
    have:=Uk z.toNat (show 1<=cs.length by omega);omega
   have bb:(bG (cs.take i) (z,pc)).length+z.toNat<=4096:=by
    rw [ku,R0,show ((z,pc):Int × Int).1=z from rfl];have:(min i cs.length+1) * z.toNat<=cs.length * z.toNat:=Uk _ %[0|8];rw [Nat.add_mul,Nat.one_mul] at this;omega
   simp! only [↓aD];refine⟨by omega,by omega,?_⟩;refine aV (List.range z.toNat) (λ _=>true) (λ j=>.int (c+(j:Int) * pc)) (λ j x H'=>x=.int (0+(j:Nat))) di.1 di.2 (ak (by rw [RL];omega)) ?_ ?_
   ·intro D j x H' N1 N0 hj hD e hx k1 _;subst hx;have bt:=RO.mp hj;have bx:=k1 rfl H' (Ext.refl _);have bS:pI (j:Int) pc:=.inl %[0|8];have e0:(0:Int)+(j:Int)=(j:Int):=RZ _;clear k1 k hj;simp! only [↓aL,↓aJ]
   ·intro D H3 hD e3 aX;have a3:H3 D=some (.lst (((List.range z.toNat).map λ (j:Nat)=>c+(j:Int) * pc).map V.int)):=by rw [aX,ix,Se];rfl
    have a4:=e3.at h2;have hle:(bG (cs.take i) (z,pc)).length+(List.range z.toNat).length<=sizeLine:=ak (by rw [RL];omega);clear aX hi;ac_rfl;refine⟨_,rfl,(e2.trans e3).put aS,?_⟩;rw [mH cs (z,pc) i c hc,SI]
  ·rintro _ H2 ⟨v4,rfl,e2,h2⟩;ac_rfl;rw [Rh,R6] at h2;exact k r H2 aS e2 h2
abbrev qX(C cT:Addr)(v:Addr)(H:Hp)(Q:VK)(E:XK):Prop:=∃ (room first:Int) (axs:%[0|48]),aE C H v room first axs/\fM axs/\(ae (axs.map λ a=>a.1)<=4096->∀ (r:Addr) (H':Hp),H r=none->Ext H H'->H' r=some (.lst ((af first axs).map V.int))->Q (.ref r) H')/\¬ 4096 < ae (axs.map λ a=>a.1)
def sG(C cT:Addr):Sp:=λ vs H Q E=>∃ (v:Addr),vs=[.ref v]/\(qX C cT v H Q E)
def eT(C cT:Addr)(v:Addr)(H:Hp)(Q:VK)(E:XK):sG C cT [.ref v] H Q E=(qX C cT v H Q E):=lZ (f:=λ (v:Addr)=>[.ref v]) (λ _ _ h=>by cases h;exact rfl) v
def cy(T:Tx K mg t):%[4,Bb|49] ["self"] (sG t.a_V3 t.a_VT):=by
 have G_Ba:=%[fK|44];have G_A0:=%[eI|44];have G_Jb:=%[vX|44];refine T.F_Bb.ok cX (λ _ _ _ _ h=>lX h λ _=>rfl) %[0|50]
 ·obtain⟨v,rfl,room,first,axs,vo,aX,kQ,kE⟩:=h;obtain⟨dx,l,hv,ys,hl,al⟩:=vo.ob;have c1:=T.cl_View;have c2:=T.na_View_first;have c3:=T.na_View_axes
  have f1:=fh room first l
  have f2:=cJ room first l
  have f3:=vn room first l (m := "count") nofun
  refine⟨_,%[%[%[A0,%[%[%[0|0],T.cl_View,T.mt_View_count,G_Ba,(hr.mono ⋯),T.b_Ba,.nil,aW,∅|23]|1]|3],∅|20],%[%[1,cX,%[%[%[%[0|0],rfl|27]|1]|18]|4],%[%[RA,rfl,%[%[%[0|0],rfl|27]|19],(%[(2),rfl,%[%[2,cX|5],%[%[3,cX|5],(@aK _),∅|16],∅|16],∅,∅|25].mono λ _ _ _ _ h=>bX h),%[%[1,cX,%[Jb,%[%[1|0],%[%[2|0],%[%[3|0]|1]|1]|1]|3]|4]|10],(by intros;rfl)|21],%[%[%[1|0]|11]|10]|9]|9]|9],?_⟩;rw [show az ["self", "found", "size", "pace"] [.ref v]=[%[v|45],none,none,none] from rfl];clear G_Ba G_A0 G_Jb;ac_rfl;rw [jr];refine⟨room,first,axs,vo,aX,λ H1 e1=>?_⟩;have a4:=e1.at hv;have a5:=e1.at hl;ac_rfl;rw [oH];refine⟨λ hc=>?_,kE⟩;have a6:=kQ hc;clear kQ kE;ac_rfl;intro r H2 a7 e2 h2;have bx:=e2.at a4;have bS:=e2.at a5;ac_rfl;have aS:∀ a∈axs,(1:Int)<=a.1:=λ a ha=>(aX.2 a ha).1;refine cw (xs:=ys) (λ i σ H'=>∃ (r:Addr) (v2 v3:Option V),σ=[%[v|45],%[r|45],v2,v3]/\Ext H H'/\H r=none/\H' r=some (.lst ((af first (axs.take i)).map V.int))) ⟨r,none,none,rfl,e1.trans e2,e1.free a7,h2⟩ (λ i σ H' _ ⟨_,_,_,_,e,_,_⟩=>e.at hl) ?_ ?_
  ·rintro i y _ H3 hi ⟨r3,v2,v3,rfl,e3,a3,h3⟩;obtain⟨a,q,ha,rfl,hq⟩:=Py al hi;have b1:=e3.at hq;have hm:=aX.2 a (Rx ha);simp! only [↓aD];rw [t7];refine⟨_,h3,hm.1,?_,hm.2,λ r4 H4 a8 e4 h4=>?_⟩
   ·have a9:=aB first (axs.take i) λ b hb=>aS b (Sk hb)
    have hp:=fJ (axs.map λ a=>a.1) (λ n hn=>by obtain⟨b,hb,rfl⟩:=Rj.mp hn;exact aS b hb) (i+1);rw [jk _ i a.1 (by rw [Rq,ha];rfl),←Vm,←a9] at hp;have bb:((a.1.toNat:Nat):Int)=a.1:=Sb %[0|8]
    have:(((af first (axs.take i)).length * a.1.toNat:Nat):Int)<=4096:=by rw [Uu,bb];omega
    omega
   ·ac_rfl;refine⟨r4,_,_,rfl,e3.trans e4,e3.free a8,?_⟩;rw [h4,R7,ha]
    show _=some (HO.lst (List.map V.int (af first (axs.take i++[a]))))
    rw [lH]
  ·rintro _ H3 ⟨r3,v2,v3,rfl,e3,a3,h3⟩;have bt:ys.length=axs.length:=by rw [al.1];unfold axL;rw [length_map]
   rw [bt,R6] at h3;ac_rfl;exact a6 r3 H3 a3 e3 h3
abbrev vw(C:Addr)(v:Addr)(q:Addr)(H:Hp)(Q:VK)(E:XK):Prop:=∃ (room first:Int) (axs:%[0|48]) (ys:List Int),aE C H v room first axs/\fM axs/\H q=some (.tup (ys.map V.int))/\InR (axs.map λ a=>a.1) ys/\∀ H',Ext H H'->Q (.int (first+gB ys (axs.map λ a=>a.2))) H'
def xQ(C:Addr):Sp:=λ vs H Q E=>∃ (v:Addr) (q:Addr),vs=[.ref v,.ref q]/\(vw C v q H Q E)
def u6(C:Addr)(v:Addr)(q:Addr)(H:Hp)(Q:VK)(E:XK):xQ C [.ref v,.ref q] H Q E=(vw C v q H Q E):=iu (f:=λ (v:Addr) (q:Addr)=>[.ref v,.ref q]) (λ _ _ _ _ h=>by cases h;exact⟨rfl,rfl⟩) v q
def rq(T:Tx K mg t):%[4,DO|49] ["self", "place"] (xQ t.a_V3):=by
 have G_D8:=%[lD|44];have G_A8:=%[aZ|44];have G_A9:=%[oW|44];refine T.F_DO.ok ug (λ _ _ _ _ h=>iw h λ _ _=>rfl) %[0|50]
 ·obtain⟨v,q,rfl,room,first,axs,ys,vo,aS,hq,hy,aX⟩:=h;obtain⟨dx,l,hv,_⟩:=vo.ob;have c1:=T.cl_View;have c2:=T.na_View_first
  have f1:=fh room first l
  have f3:=vn room first l (m := "sizes") nofun
  have f4:=vn room first l (m := "paces") nofun
  refine⟨_,%[%[%[%[%[D8,%[%[%[0|0],T.cl_View,T.mt_View_sizes,G_A8,(hr.mono ⋯),T.b_A8,.nil,aW,∅|23],%[%[1|0]|1]|1]|3],(by intros;rfl)|28]|26],%[(@b7 _ _)|10],(@au _)|17],%[%[%[cv,%[%[0|0],rfl|27],%[sum,(gh rfl),%[%[(["number", "pace", "self", "place"]),(2),(aC (aa fq) ["self", "place"] rfl rfl nofun),rfl,%[∅,T.z_zip,%[%[1|0],%[%[%[0|0],T.cl_View,T.mt_View_paces,G_A9,(hr.mono ⋯),T.b_A9,.nil,aW,∅|23]|1]|1],∅,∅|39],(λ _ _ _ _ _=>(%[(2),rfl,%[%[0,["number", "pace", "self", "place"]|51],%[%[1,["number", "pace", "self", "place"]|51],(@aK _),∅|16],∅|16],∅,∅|25].mono λ _ _ _ _ h=>bX h)),(λ _ _ _ _ _=>(@aG _)),(λ _ _ _ _ _=>%[eM,%[0|0],%[1|0]|13]),(by intros;rfl)|22]|1]|6]|13]|11]|10]|9],?_⟩;rw [show az ["self", "place"] [.ref v,.ref q]=[%[v|45],%[q|45]] from rfl];clear G_D8 G_A8 G_A9;have hsz:=aS.sizes;ac_rfl;rw [bA];refine⟨room,first,axs,vo,aS.1,λ r H1 a9 e1 h1=>?_⟩;have a5:=e1.at hv;have bb:=gi (e1.at hq);have bt:dU (axs.map λ a=>a.1) (.ref q) H1=true:=gf (e1.at hq) hy;have a6:=e1.at hq;clear hq;simp! only [↓cM,↓iY,↓vF];intro H2 e2;have a7:=e2.at a5;have a8:=e2.at a6;ac_rfl;rw [wW];refine⟨room,first,axs,vo.ext (e1.trans e2),aS.1,λ r3 H3 bx e3 h3=>?_⟩;have a3:=e3.at a8;ac_rfl;have bS:=hy.len;have h8:=aS.1;refine aV ((ys.map V.int).zip ((axs.map λ a=>a.2).map V.int)) (λ _=>true) (λ z=>.int (vi z.1 * vi z.2)) EX (jx (ka:=true) (kb:=false) a3 h3).1 (jx (ka:=true) (kb:=false) a3 h3).2 (ak (by rw [Tb,Rh,Rh,Rh];omega)) ?_ ?_
  ·intro D z y H' N1 N0 hz hD e ⟨u,hu,b1⟩ k1 _;subst hu;obtain⟨x0,n0⟩:=z;have hm:=Tg hz;obtain⟨a,ha,rfl⟩:=Rj.mp hm.1;obtain⟨b,b2,rfl⟩:=Rj.mp hm.2;have b3:N1 (.int (a * b)) H':=k1 rfl H' (Ext.refl _);have ca:=hy.bound hsz a ha;have b4:pI a b:=.inl ⟨by omega,by omega⟩;clear k1 hm hz aX;simp! only [↓dB,↓aJ]
  ·intro D H' hD e a4
   have b5:H' D=some (.lst ((List.zipWith (λ x p=>x * p) ys (axs.map λ a=>a.2)).map V.int)):=by
    rw [a4,Fl]
   have k2:Q (.int (first+(List.zipWith (λ x p=>x * p) ys (axs.map λ a=>a.2)).sum)) H':=aX H' (e1.trans (e2.trans (e3.trans e)));have cb:=(e3.trans e).at a7;clear aX a4;ac_rfl
def my(l:Addr):List (Str × V):=fV "floor" (V.ref l) []
def dX(l:Addr):(my l).lookup ("floor":Str)=%[l|45]:=by
 unfold my;rw [aI,if_pos rfl]
def bI(l:Addr){m:Str}(h:m∈([("all_values":Str), "refuse_room", "read", "put", "copied", "fill"]:List Str)):(my l).lookup m=none:=by
 have:¬ m = "floor":=by
  revert m
  decide +kernel
 unfold my;rw [aI,if_neg this];rfl
structure da(C:Addr)(H:Hp)(s l:Addr)(vals:List Int):Prop where
 ob:∃ dx,H s=some (.ins C dx (my l))
 fl:H l=%[vals|46]
def da.ext{C:Addr}{H H':Hp}{s l:Addr}{vals:List Int}(h:da C H s l vals)(e:Ext H H'):da C H' s l vals:=by
 obtain⟨dx,h1⟩:=h.ob;exact⟨⟨dx,e.at h1⟩,e.at h.fl⟩
abbrev qP(C:Addr)(x:Addr)(p:Addr)(H:Hp)(Q:VK)(E:XK):Prop:=∃ (dx:Addr) (vals:List Int),H x=some (.ins C dx [])/\H p=%[vals|46]/\1<=vals.length/\vals.length<=4096/\∀ (H':Hp) (l:Addr),(∀ H0,Ext H0 H->H0 x=none->Ext H0 H')->H l=none->H' x=some (.ins C dx (my l))->H' l=%[vals|46]->Q .non H'
def su(C:Addr):Sp:=λ vs H Q E=>∃ (x:Addr) (p:Addr),vs=[.ref x,.ref p]/\(qP C x p H Q E)
def qF(C:Addr)(x:Addr)(p:Addr)(H:Hp)(Q:VK)(E:XK):su C [.ref x,.ref p] H Q E=(qP C x p H Q E):=iu (f:=λ (x:Addr) (p:Addr)=>[.ref x,.ref p]) (λ _ _ _ _ h=>by cases h;exact⟨rfl,rfl⟩) x p
def ju(T:Tx K mg t):%[4,wB|49] ["self", "values"] (su t.a_V1):=by
 have G_A0:=%[eI|44];refine T.F_wB.ok jM (λ _ _ _ _ h=>iw h λ _ _=>rfl) %[0|50]
 ·obtain⟨x,p,rfl,dx,vals,hx,hp,aX,a3,k⟩:=h;have c1:=T.cl_Store;have c2:=T.na_Store_floor;refine⟨_,%[%[%[(cV hr.units),%[len,ao,%[%[1|0]|1]|6],%[0|2],(ar _)|15],%[(@b7 _ _)|10],(@au _)|17],%[%[%[A0,%[%[len,ao,%[%[1|0]|1]|6]|1]|3],∅|20],%[(@jQ _ _ _ _ _ _ _ _ %[0|0] %[du,∅,T.z_list,nofun,%[%[1|0]|1],⋯,⋯,∅,∅|38] rfl)|10]|9]|9],?_⟩;rw [show az ["self", "values"] [.ref x,.ref p]=[%[x|45],%[p|45]] from rfl];clear G_A0;have a4:¬ ((vals.length:Int)=0):=by omega
  ac_rfl;rw [oH];refine⟨λ _=>?_,λ h=>absurd h %[0|8]⟩;ac_rfl;intro l H1 hl e1 h1;have a5:=e1.at hx;have aS:l ≠ x:=λ z=>by rw [z,hx] at hl;cases hl
  ac_rfl;exact k _ l (λ H0 q0 q1=>(q0.trans e1).put q1) hl aq (by rw [ah aS];exact h1)
abbrev vD(C:Addr)(s:Addr)(H:Hp)(Q:VK)(E:XK):Prop:=∃ (l:Addr) (vals:List Int),da C H s l vals/\vals.length<=4096/\∀ (r:Addr) (H':Hp),H r=none->Ext H H'->H' r=%[vals|46]->Q (.ref r) H'
def xW(C:Addr):Sp:=λ vs H Q E=>∃ (s:Addr),vs=[.ref s]/\(vD C s H Q E)
def oJ(C:Addr)(s:Addr)(H:Hp)(Q:VK)(E:XK):xW C [.ref s] H Q E=(vD C s H Q E):=lZ (f:=λ (s:Addr)=>[.ref s]) (λ _ _ h=>by cases h;exact rfl) s
def dP(T:Tx K mg t):%[1,tX|49] ["self"] (xW t.a_V1):=by
 refine T.F_tX.ok iU (λ _ _ _ _ h=>lX h λ _=>rfl) (λ c A o s' H vs Q E hr h=>?_)
 ·obtain⟨s,rfl,l,vals,so,aX,k⟩:=h;obtain⟨dx,hs⟩:=so.ob;have a3:=so.fl;have c1:=T.cl_Store;have c2:=T.na_Store_floor;have f1:=dX l;refine⟨_,%[%[%[du,∅,T.z_list,nofun,%[%[%[0|0],rfl|27]|1],⋯,⋯,∅,∅|38]|11]|10],?_⟩;rw [show az ["self"] [.ref s]=[%[s|45]] from rfl];ac_rfl;intro r H1 aS e1 h1;exact k r H1 aS e1 h1
abbrev vc(CS CV:Addr)(s:Addr)(v:Addr)(H:Hp)(Q:VK)(E:XK):Prop:=∃ (l:Addr) (vals:List Int) (room first:Int) (axs:%[0|48]),da CS H s l vals/\aE CV H v room first axs/\room=vals.length/\Q .non H
def xC(CS CV:Addr):Sp:=λ vs H Q E=>∃ (s:Addr) (v:Addr),vs=[.ref s,.ref v]/\(vc CS CV s v H Q E)
def gE(CS CV:Addr)(s:Addr)(v:Addr)(H:Hp)(Q:VK)(E:XK):xC CS CV [.ref s,.ref v] H Q E=(vc CS CV s v H Q E):=iu (f:=λ (s:Addr) (v:Addr)=>[.ref s,.ref v]) (λ _ _ _ _ h=>by cases h;exact⟨rfl,rfl⟩) s v
def bg(T:Tx K mg t):%[1,tU|49] ["self", "view"] (xC t.a_V1 t.a_V3):=by
 refine T.F_tU.ok ir (λ _ _ _ _ h=>iw h λ _ _=>rfl) (λ c A o s' H vs Q E hr h=>?_)
 ·obtain⟨s,v,rfl,l,vals,room,first,axs,so,vo,aS,k⟩:=h;obtain⟨dx,hs⟩:=so.ob;obtain⟨dy,D,hv,_⟩:=vo.ob;have aX:=so.fl;have c1:=T.cl_Store;have c2:=T.na_Store_floor;have c3:=T.cl_View;have c4:=T.na_View_room;have f1:=dX l
  have f2:=eU room first D
  refine⟨_,%[%[%[(dk hr.units),%[%[1|0],rfl|27],%[len,ao,%[%[%[0|0],rfl|27]|1]|6],(ar _)|15],%[(@b7 _ _)|10],(@au _)|17]|10],?_⟩;rw [show az ["self", "view"] [.ref s,.ref v]=[%[s|45],%[v|45]] from rfl];subst aS;ac_rfl
abbrev nh(CV:Addr)(v:Addr)(n:Int)(H:Hp)(Q:VK)(E:XK):Prop:=∃ (room first:Int) (axs:%[0|48]),aE CV H v room first axs/\fM axs/\n=ae (axs.map λ a=>a.1)/\∀ H',Ext H H'->Q .non H'
def n9(CV:Addr):Sp:=λ vs H Q E=>∃ (v:Addr) (n:Int),vs=[.ref v,.int n]/\(nh CV v n H Q E)
def mZ(CV:Addr)(v:Addr)(n:Int)(H:Hp)(Q:VK)(E:XK):n9 CV [.ref v,.int n] H Q E=(nh CV v n H Q E):=iu (f:=λ (v:Addr) (n:Int)=>[.ref v,.int n]) (λ _ _ _ _ h=>by cases h;exact⟨rfl,rfl⟩) v n
def gz(T:Tx K mg t):%[3,AY|49] ["view", "many"] (n9 t.a_V3):=by
 have G_Ba:=%[fK|44];refine T.F_AY.ok mq (λ _ _ _ _ h=>iw h λ _ _=>rfl) (λ c A o s' H vs Q E hr h=>?_)
 ·obtain⟨v,n,rfl,room,first,axs,vo,aS,hn,k⟩:=h;obtain⟨dy,D,hv,_⟩:=vo.ob
  have f3:=vn room first D (m := "count") nofun
  have c3:=T.cl_View;refine⟨_,%[%[%[(dk hr.units),%[%[0|0],T.cl_View,T.mt_View_count,G_Ba,(hr.mono ⋯),T.b_Ba,.nil,aW,∅|23],%[1|0],(ar _)|15],%[(@b7 _ _)|10],(@au _)|17]|10],?_⟩;rw [show az ["view", "many"] [.ref v,.int n]=[%[v|45],%[n|47]] from rfl];clear G_Ba;subst hn;ac_rfl;rw [jr];refine⟨room,first,axs,vo,aS,λ H1 e1=>?_⟩;have k1:=k H1 e1;clear k;ac_rfl
def dC{vals:List Int}{c:Int}(h0:0<=c)(h1:c < vals.length):atI (vals.map V.int) c=some (.int (vals.getD c.toNat 0)):=by
 obtain⟨n,rfl⟩:=RF h0;have hn:n < vals.length:=by omega
 refine cI ?_;rw [Rq,Rb hn];simp [List.getD,Rb hn]
def B7{n:Nat}{c:Int}(h0:0<=c)(h1:c < n):ixN n c=some c.toNat:=by
 unfold ixN;rw [if_pos h0,if_pos %[0|8]]
def JK(cs:List Int):Al (λ (z:Int) (y:V)=>y=.int z) cs (cs.map V.int):=by
 refine⟨by rw [Rh],λ i z y hz hy=>?_⟩;rw [Rq,hz] at hy;cases hy;rfl
def fe(cs:List Int)(n:Nat):Prop:=∀ c∈cs,0<=c/\c < (n:Int)
def iy(vals cs:List Int):List Int:=cs.map λ c=>vals.getD c.toNat 0
def uh(vals cs ws:List Int):List Int:=(cs.zip ws).foldl (λ vs p=>vs.set p.1.toNat p.2) vals
abbrev ve(CS CV:Addr)(s:Addr)(v:Addr)(H:Hp)(Q:VK)(E:XK):Prop:=∃ (l:Addr) (vals:List Int) (room first:Int) (axs:%[0|48]),da CS H s l vals/\aE CV H v room first axs/\fM axs/\room=vals.length/\ae (axs.map λ a=>a.1)<=4096/\fe (af first axs) vals.length/\∀ (r:Addr) (H':Hp),H r=none->Ext H H'->H' r=some (.lst ((iy vals (af first axs)).map V.int))->Q (.ref r) H'
def xF(CS CV:Addr):Sp:=λ vs H Q E=>∃ (s:Addr) (v:Addr),vs=[.ref s,.ref v]/\(ve CS CV s v H Q E)
def EK(CS CV:Addr)(s:Addr)(v:Addr)(H:Hp)(Q:VK)(E:XK):xF CS CV [.ref s,.ref v] H Q E=(ve CS CV s v H Q E):=iu (f:=λ (s:Addr) (v:Addr)=>[.ref s,.ref v]) (λ _ _ _ _ h=>by cases h;exact⟨rfl,rfl⟩) s v
def oY(T:Tx K mg t):%[5,Be|49] ["self", "view"] (xF t.a_V1 t.a_V3):=by
 have G_tU:=%[bg|44];have G_Bb:=%[cy|44];refine T.F_Be.ok rN (λ _ _ _ _ h=>iw h λ _ _=>rfl) (λ c A o s' H vs Q E hr h=>?_)
 ·obtain⟨s,v,rfl,l,vals,room,first,axs,so,vo,a3,aX,bt,aS,k⟩:=h;subst aX;obtain⟨dx,hs⟩:=so.ob;obtain⟨dy,D,hv,_⟩:=vo.ob;have a5:=so.fl;have c1:=T.cl_Store;have c2:=T.na_Store_floor;have c3:=T.cl_View;have f1:=dX l;have f2:=bI l (m := "refuse_room") nofun
  have f3:=vn (vals.length:Int) first D (m := "cells") nofun
  refine⟨_,%[%[%[%[0|0],T.cl_Store,T.mt_Store_refuse_room,G_tU,(hr.mono ⋯),T.b_tU,.nil,aW,%[%[1|0]|1],∅,∅,∅|35],∅|20],%[%[%[(["cell", "self", "view"]),(1),(aC (aa eh) ["self", "view"] rfl rfl nofun),rfl,%[%[%[1|0],T.cl_View,T.mt_View_cells,G_Bb,(hr.mono ⋯),T.b_Bb,.nil,aW,∅|23]|19],(λ _ _ _ _ _=>%[0,["cell", "self", "view"]|51]),(λ _ _ _ _ _=>(@aG _)),(λ _ _ _ _ _=>%[cq,(@CW _ _ _ _ _ (K) rfl %[1|0] rfl),%[0|0],(λ _ _=>rfl)|12]),(by intros;rfl)|22]|11]|10]|9],?_⟩;rw [show az ["self", "view"] [.ref s,.ref v]=[%[s|45],%[v|45]] from rfl];clear G_tU G_Bb;ac_rfl;rw [gE];refine⟨l,vals,_,first,axs,so,vo,rfl,?_⟩;ac_rfl;rw [eT];refine⟨_,first,axs,vo,a3,λ _ r1 H1 bx e1 h1=>?_,λ h=>absurd h %[0|8]⟩
  have a6:=aB first axs λ a ha=>(a3.2 a ha).1
  have a7:=e1.at hs;have a4:=e1.at a5;unfold iy at k
  generalize af first axs=cs at h1 aS k a6
  have a9:cs.length<=4096:=by omega
  ac_rfl;have wk:=dv (K:=K) (R:=λ (z:Int) y _=>y=.int z) (λ _ _ _ _ h _=>h) h1 (JK cs);refine aV cs (λ _=>true) (λ c=>.int (vals.getD c.toNat 0)) (λ z y _=>y=.int z) wk.1 wk.2 (ak %[0|8]) ?_ ?_
  ·intro D2 c y H' N1 N0 hc hD e hy k1 _;subst hy;have bS:=dC (aS c hc).1 (aS c hc).2;have b1:=k1 rfl H' (Ext.refl _);have b2:=e.at a7;have bb:=e.at a4;clear k1 k aS hc;simp! only [↓aL,↓aJ]
  ·intro D2 H2 a8 e2 h2;rw [ix] at h2;have k2:=k D2 H2 (e1.free a8) (e1.trans e2) (by rw [h2,Se];rfl);clear k aS;ac_rfl
def qk{vals cs ws:List Int}{i:Nat}{c z:Int}(hc:cs[i]? = some c)(hw:ws[i]? = some z):uh vals (cs.take (i+1)) (ws.take (i+1))=(uh vals (cs.take i) (ws.take i)).set c.toNat z:=by
 unfold uh
 have e1:(cs.take (i+1)).zip (ws.take (i+1))=(cs.take i).zip (ws.take i)++[(c,z)]:=by
  rw [R7,R7,hc,hw,VO (by
   have h1:=(Rf.mp hc).1;have h2:=(Rf.mp hw).1;rw [R0,R0];omega)]
  rfl
 rw [e1,S4];rfl
def CI(vals:List Int):∀ (ps:%[0|48]),(ps.foldl (λ vs p=>vs.set p.1.toNat p.2) vals).length=vals.length:=by
 intro ps
 induction ps generalizing vals with
 | nil=>rfl
 | cons p ps ih=>rw [Tj,ih,Th]
def lB(vals cs ws:List Int):(uh vals cs ws).length=vals.length:=CI vals _
def oz(xs:List Int)(j:Nat)(z:Int):(xs.map V.int).set j (.int z)=(xs.set j z).map V.int:=by
 rw [List.map_set]
def FI(CS CV:Addr):Sp:=λ vs H Q E=>∃ (s:Addr) (v:Addr) (p:Addr),vs=[.ref s,.ref v,.ref p]/\(∃ (l:Addr) (vals:List Int) (room first:Int) (axs:%[0|48]) (ws:List Int),da CS H s l vals/\aE CV H v room first axs/\fM axs/\room=vals.length/\vals.length<=4096/\ae (axs.map λ a=>a.1)<=4096/\fe (af first axs) vals.length/\H p=%[ws|46]/\p ≠ l/\(ws.length:Int)=ae (axs.map λ a=>a.1)/\∀ H',(∀ H0,Ext H0 H->H0 l=none->Ext H0 H')->(∀ b o,b ≠ l->H b=some o->H' b=some o)->H' l=some (.lst ((uh vals (af first axs) ws).map V.int))->Q .non H')
def yX(CS CV:Addr)(s:Addr)(v:Addr)(p:Addr)(H:Hp)(Q:VK)(E:XK):FI CS CV [.ref s,.ref v,.ref p] H Q E=(∃ (l:Addr) (vals:List Int) (room first:Int) (axs:%[0|48]) (ws:List Int),da CS H s l vals/\aE CV H v room first axs/\fM axs/\room=vals.length/\vals.length<=4096/\ae (axs.map λ a=>a.1)<=4096/\fe (af first axs) vals.length/\H p=%[ws|46]/\p ≠ l/\(ws.length:Int)=ae (axs.map λ a=>a.1)/\∀ H',(∀ H0,Ext H0 H->H0 l=none->Ext H0 H')->(∀ b o,b ≠ l->H b=some o->H' b=some o)->H' l=some (.lst ((uh vals (af first axs) ws).map V.int))->Q .non H'):=xf (f:=λ (s:Addr) (v:Addr) (p:Addr)=>[.ref s,.ref v,.ref p]) (λ _ _ _ _ _ _ h=>by cases h;exact⟨rfl,rfl,rfl⟩) s v p
def jB(T:Tx K mg t):%[5,DR|49] ["self", "view", "values"] (FI t.a_V1 t.a_V3):=by
 have G_tU:=%[bg|44];have G_AY:=%[gz|44];have G_Bb:=%[cy|44];refine T.F_DR.ok iq (λ _ _ _ _ h=>xg h λ _ _ _=>rfl) (λ c A o s' H vs Q E hr h=>?_)
 ·obtain⟨s,v,p,rfl,l,vals,room,first,axs,ws,so,vo,a4,a5,cm,cF,a6,hp,b3,b4,k⟩:=h;subst a5;obtain⟨dx,hs⟩:=so.ob;obtain⟨dy,D,hv,_⟩:=vo.ob;have bb:=so.fl;have c1:=T.cl_Store;have c2:=T.na_Store_floor;have c3:=T.cl_View;have f1:=dX l;have f2:=bI l (m := "refuse_room") nofun
  have f3:=vn (vals.length:Int) first D (m := "cells") nofun
  refine⟨_,%[%[%[%[0|0],T.cl_Store,T.mt_Store_refuse_room,G_tU,(hr.mono ⋯),T.b_tU,.nil,aW,%[%[1|0]|1],∅,∅,∅|35],∅|20],%[%[%[AY,%[%[1|0],%[%[len,ao,%[%[2|0]|1]|6]|1]|1]|3],∅|20],%[%[RA,rfl,%[∅,T.z_zip,%[%[%[1|0],T.cl_View,T.mt_View_cells,G_Bb,(hr.mono ⋯),T.b_Bb,.nil,aW,∅|23],%[%[2|0]|1]|1],∅,∅|39],(%[(2),rfl,%[%[3,iq|5],%[%[4,iq|5],(@aK _),∅|16],∅|16],∅,∅|25].mono λ _ _ _ _ h=>bX h),%[(@pN _ _ _ _ _ _ %[4|0] (@ur _ _ _ _ _ _ _ %[%[0|0],rfl|27] %[3|0] jO (by intros;rfl)) ∅ ∅ ∅)|10],(by intros;rfl)|21]|10]|9]|9],?_⟩;rw [show az ["self", "view", "values", "cell", "value"] [.ref s,.ref v,.ref p]=[%[s|45],%[v|45],%[p|45],none,none] from rfl];clear G_tU G_AY G_Bb;ac_rfl;rw [gE];refine⟨l,vals,_,first,axs,so,vo,rfl,?_⟩;ac_rfl;rw [mZ];refine⟨_,first,axs,vo,a4,(by first|rfl|exact b4),λ H1 e1=>?_⟩;have cS:=e1.at hv;have b5:=e1.at hp;ac_rfl;rw [eT];refine⟨_,first,axs,vo.ext e1,a4,λ _ r2 H2 bt e2 h2=>?_,λ h=>absurd h %[0|8]⟩
  have cb:=aB first axs λ a ha=>(a4.2 a ha).1
  generalize af first axs=cs at h2 a6 k cb
  have bx:cs.length=ws.length:=by omega
  have cf:=e2.at b5;have a7:=(e1.trans e2).at hs;have aX:=(e1.trans e2).at bb;have bS:r2 ≠ l:=λ z=>by rw [z,e1.at bb] at bt;cases bt
  ac_rfl;refine ko (ka:=false) (kb:=false) (xs:=cs.map V.int) (ys:=ws.map V.int) (λ i σ H'=>∃ v3 v4:Option V,σ=[%[s|45],%[v|45],%[p|45],v3,v4]/\(∀ H0,Ext H0 H2->H0 l=none->Ext H0 H')/\(∀ b o,b ≠ l->H2 b=some o->H' b=some o)/\H' l=some (.lst ((uh vals (cs.take i) (ws.take i)).map V.int))) ⟨none,none,rfl,λ _ q _=>q,λ _ _ _ q=>q,aX⟩ (λ i σ H' ⟨_,_,_,_,hk,_⟩=>⟨hk _ _ bS h2,hk _ _ b3 cf⟩) ?_ ?_
  ·rintro i u x q _ H3 H4 hu hx ⟨v3,v4,rfl,a8,aS,h3⟩ hq e4 h4;rw [Rq] at hu hx;obtain⟨c,hc,rfl⟩:=Rm.mp hu;obtain⟨z,hz,rfl⟩:=Rm.mp hx;have b1:=a6 c (Rx hc);have cT:=e4.at (aS _ _ (λ z=>by rw [z,aX] at a7;cases a7) a7);have b2:=e4.at h3;have hlen:=lB vals (cs.take i) (ws.take i);have a3:=λ (_:Unit)=>qk (vals:=vals) hc hz;generalize uh vals (cs.take i) (ws.take i)=vv at h3 b2 hlen a3;have c0:ixN vv.length c=some c.toNat:=B7 b1.1 (by rw [hlen];exact b1.2);clear hu hx hc hz k a6 hlen h3;simp! only [↓aD];refine⟨_,_,rfl,λ H0 q0 q1=>((a8 H0 q0 q1).trans e4).put q1,λ b o hb a9=>by rw [ah hb];exact e4.at (aS b o hb a9),?_⟩;rw [a3 (),←oz]
  ·rintro _ H3 ⟨v3,v4,rfl,a8,aS,h3⟩;have hm:min (cs.map V.int).length (ws.map V.int).length=cs.length:=by rw [Rh,Rh];omega
   rw [hm,R6,bx,R6] at h3;exact k H3 (λ H0 q0 q1=>a8 H0 (q0.trans (e1.trans e2)) q1) (λ b o hb a9=>aS b o hb ((e1.trans e2).at a9)) h3
abbrev nu(CS CV:Addr)(s:Addr)(v:Addr)(u:Addr)(H:Hp)(Q:VK)(E:XK):Prop:=∃ (l:Addr) (vals:List Int) (f1 f2:Int) (a1 a2:%[0|48]),da CS H s l vals/\aE CV H v vals.length f1 a1/\aE CV H u vals.length f2 a2/\fM a1/\fM a2/\vals.length<=4096/\ae (a1.map λ a=>a.1)<=4096/\ae (a2.map λ a=>a.1)=ae (a1.map λ a=>a.1)/\fe (af f1 a1) vals.length/\fe (af f2 a2) vals.length/\∀ H',(∀ H0,Ext H0 H->H0 l=none->Ext H0 H')->(∀ b o,b ≠ l->H b=some o->H' b=some o)->H' l=some (.lst ((uh vals (af f1 a1) (iy vals (af f2 a2))).map V.int))->Q .non H'
def oi(CS CV:Addr):Sp:=λ vs H Q E=>∃ (s:Addr) (v:Addr) (u:Addr),vs=[.ref s,.ref v,.ref u]/\(nu CS CV s v u H Q E)
def wZ(CS CV:Addr)(s:Addr)(v:Addr)(u:Addr)(H:Hp)(Q:VK)(E:XK):oi CS CV [.ref s,.ref v,.ref u] H Q E=(nu CS CV s v u H Q E):=xf (f:=λ (s:Addr) (v:Addr) (u:Addr)=>[.ref s,.ref v,.ref u]) (λ _ _ _ _ _ _ h=>by cases h;exact⟨rfl,rfl,rfl⟩) s v u
def lR(T:Tx K mg t):%[6,AZ|49] ["self", "to", "source"] (oi t.a_V1 t.a_V3):=by
 have G_tU:=%[bg|44];have G_AY:=%[gz|44];have G_Ba:=%[fK|44];have G_Be:=%[oY|44];have G_DR:=%[jB|44];refine T.F_AZ.ok mr (λ _ _ _ _ h=>xg h λ _ _ _=>rfl) (λ c A o s' H vs Q E hr h=>?_)
 ·obtain⟨s,v,u,rfl,l,vals,f1,f2,a1,a2,so,vo,wo,a5,a4,a8,a6,aX,a9,bb,k⟩:=h;obtain⟨dx,hs⟩:=so.ob;obtain⟨dy,D,hv,_⟩:=vo.ob;obtain⟨dz,D2,hu,_⟩:=wo.ob;have bt:=so.fl;have c1:=T.cl_Store;have c3:=T.cl_View;have g1:=bI l (m := "refuse_room") nofun;have g2:=bI l (m := "read") nofun;have g3:=bI l (m := "put") nofun;have g4:=vn (vals.length:Int) f2 D2 (m := "count") nofun;refine⟨_,%[%[%[%[0|0],T.cl_Store,T.mt_Store_refuse_room,G_tU,(hr.mono ⋯),T.b_tU,.nil,aW,%[%[1|0]|1],∅,∅,∅|35],∅|20],%[%[%[%[0|0],T.cl_Store,T.mt_Store_refuse_room,G_tU,(hr.mono ⋯),T.b_tU,.nil,aW,%[%[2|0]|1],∅,∅,∅|35],∅|20],%[%[%[AY,%[%[1|0],%[%[%[2|0],T.cl_View,T.mt_View_count,G_Ba,(hr.mono ⋯),T.b_Ba,.nil,aW,∅|23]|1]|1]|3],∅|20],%[%[%[%[0|0],T.cl_Store,T.mt_Store_put,G_DR,(hr.mono ⋯),T.b_DR,.nil,aW,%[%[1|0],%[%[%[0|0],T.cl_Store,T.mt_Store_read,G_Be,(hr.mono ⋯),T.b_Be,.nil,aW,%[%[2|0]|1],∅,∅,∅|35]|1]|1],∅,∅,∅|35],∅|20]|10]|9]|9]|9],?_⟩;rw [show az ["self", "to", "source"] [.ref s,.ref v,.ref u]=[%[s|45],%[v|45],%[u|45]] from rfl];clear G_tU G_AY G_Ba G_Be G_DR;ac_rfl;rw [gE];refine⟨l,vals,_,f1,a1,so,vo,rfl,?_⟩;ac_rfl;rw [gE];refine⟨l,vals,_,f2,a2,so,wo,rfl,?_⟩;ac_rfl;rw [jr];refine⟨_,f2,a2,wo,a4,λ H1 e1=>?_⟩;exists aX;ac_rfl;rw [mZ];refine⟨_,f1,a1,vo.ext e1,a5,aX (),λ H2 e2=>?_⟩;have aS:=e1.trans e2;have b1:=aS.at hs;ac_rfl;rw [EK];refine⟨l,vals,_,f2,a2,so.ext aS,wo.ext aS,a4,rfl,by rw [aX ()];exact a6,bb,λ r H3 a7 e3 h3=>?_⟩;have bx:r ≠ l:=λ z=>by rw [z,aS.at bt] at a7;cases a7
  have a3:=aS.trans e3;ac_rfl;rw [yX];refine⟨l,vals,_,f1,a1,_,so.ext a3,vo.ext a3,a5,rfl,a8,a6,a9,h3,bx,?_,λ H4 q1 q2 q3=>?_⟩
  ·unfold iy;rw [length_map,←aX ()];exact aB f2 a2 λ a ha=>(a4.2 a ha).1
  ·have k1:=k H4 (λ H0 x0 x1=>q1 H0 (x0.trans a3) x1) (λ b o hb bS=>q2 b o hb (a3.at bS)) q3;clear k;ac_rfl
def i6(os:%[0|48])(n:Nat):Prop:=os.length=n/\(os.map λ o=>o.1).Perm ((List.range n).map λ (i:Nat)=>(i:Int))/\∀ o∈os,o.2=1\/o.2=-1
def Gq(cT:Addr)(H:Hp)(Q:VK)(E:XK):List Int->Prop:=λ ns=>(ae ns<=4096->∀ D H',H D=none->Ext H H'->aR H' D (bB ns)->Q (.ref D) H')/\¬ 4096 < ae ns
def yl(cT:Addr)(H:Hp)(Q:VK)(E:XK)(ns:List Int):Gq cT H Q E ns=((ae ns<=4096->∀ D H',H D=none->Ext H H'->aR H' D (bB ns)->Q (.ref D) H')/\¬ 4096 < ae ns):=rfl
def oa(cT:Addr):Sp:=λ vs H Q E=>∃ (p:Addr),vs=[.ref p]/\(aH (aA H p) (dR (kSz (Gq cT H Q E))))
def m3(cT:Addr)(p:Addr)(H:Hp)(Q:VK)(E:XK):oa cT [.ref p] H Q E=(aH (aA H p) (dR (kSz (Gq cT H Q E)))):=lZ (f:=λ (p:Addr)=>[.ref p]) (λ _ _ h=>by cases h;exact rfl) p
def qp(T:Tx K mg t):%[4,VU|49] ["sizes"] (oa t.a_VT):=by
 have G_DY:=%[ft|44];have G_A0:=%[eI|44];have G_wI:=%[gw|44];refine T.F_VU.ok u7 (λ _ _ _ _ h=>lX h λ _=>rfl) %[0|50]
 ·obtain⟨p,rfl,h⟩:=h;obtain⟨xs,hp,ns,rfl,hs,k1,k2⟩:=ai h;replace hp:=bj hp;clear h;refine⟨_,%[%[1,u7,%[DY,%[%[0|0]|1]|3]|4],%[%[%[A0,%[%[1|0]|1]|3],∅|20],%[%[%[(["number", "sizes", "count"]),(1),(aC (aa jP) ["sizes", "count"] rfl rfl nofun),rfl,%[∅,T.z_range,%[%[1|0]|1],∅|32],(λ _ _ _ _ _=>%[0,["number", "sizes", "count"]|51]),(λ _ _ _ _ _=>(@aG _)),(λ _ _ _ _ _=>%[wI,%[%[1|0],%[%[0|0]|1]|1]|3]),(by intros;rfl)|22]|11]|10]|9]|9],?_⟩;rw [show az ["sizes", "count"] [.ref p]=[%[p|45],none] from rfl];have a7:=hs.prod.1;simp! only [↓iM,↓iY,↓pK];rw [oH];refine⟨λ hn=>?_,k2⟩;have a3:=k1 hn;clear k1 k2;have aS:ae ns < 2 ^ 62:=by omega
  have a4:-(2 ^ 62)<=ae ns:=by omega
  ac_rfl;refine⟨a4,aS,?_⟩;refine iH (List.range (ae ns).toNat) (λ _=>true) (λ j x H'=>x=.int (0+(j:Nat))) (λ D j y H'=>∃ q,y=.ref q/\q ≠ D/\H' q=some (.tup ((aj ns (j:Nat)).map V.int))) di.1 di.2 (λ D _ y H1 H2 ⟨q,h1,h2,h3⟩ e=>⟨q,h1,h2,e.at h3⟩) (λ D _ y H1 o ⟨q,h1,h2,h3⟩=>⟨q,h1,h2,by rw [ah h2];exact h3⟩) (ak (by rw [RL];omega)) ?_ ?_
  ·intro D j x H' N1 N0 hz hD e ⟨a8,aX⟩ hx kk _;subst hx;have a9:=e.at hp;have a5:=kk rfl;clear kk;simp! only [↓aL,↓aJ,↓qE,↓iY];rw [uk];intro r H2 aS e2 h2;rw [RZ] at h2;exact a5 _ H2 e2 ⟨r,rfl,(λ z=>by rw [z,aX] at aS;cases aS),h2⟩
  ·intro D ys H' hD e a6 al;rw [ix] at al;refine a3 D H' hD e ⟨ys,a6,?_,λ i z y hz hy=>?_⟩
   ·rw [al.1,RL,eP]
   ·unfold bB at hz;rw [getElem?_map] at hz;obtain⟨j,hj,rfl⟩:=Option.map_eq_some_iff.mp hz;obtain⟨q,h1,_,h3⟩:=al.2 i j y hj hy;exact⟨q,h1,h3⟩
def er(ms:List Int)(o:Int × Int)(y:Int):Int:=if o.2=1 then y else ms.getD o.1.toNat 0 - 1 - y
def dj(ms:List Int)(os:%[0|48])(ys:List Int):List Int:=(os.zip ys).foldl (λ pl p=>pl.set p.1.1.toNat (er ms p.1 p.2)) (List.replicate ms.length 0)
def vV(ms:List Int)(ps:List ((Int × Int) × Int)):∀ pl:List Int,(ps.foldl (λ pl p=>pl.set p.1.1.toNat (er ms p.1 p.2)) pl).length=pl.length:=by
 induction ps with
 | nil=>intro pl;rfl
 | cons p ps ih=>intro pl;rw [Tj,ih,Th]
def tu{ms:List Int}{os:%[0|48]}{ys:List Int}{i:Nat}{o:Int × Int}{y:Int}(ho:os[i]? = some o)(hy:ys[i]? = some y):dj ms (os.take (i+1)) (ys.take (i+1))=(dj ms (os.take i) (ys.take i)).set o.1.toNat (er ms o y):=by
 unfold dj
 have e1:(os.take (i+1)).zip (ys.take (i+1))=(os.take i).zip (ys.take i)++[(o,y)]:=by
  rw [R7,R7,ho,hy,VO (by
   have h1:=(Rf.mp ho).1;have h2:=(Rf.mp hy).1;rw [R0,R0];omega)]
  rfl
 rw [e1,S4];rfl
def uJ(n:Nat):(List.replicate n [V.int 0]).flatten=(List.replicate n (0:Int)).map V.int:=by
 induction n with
 | zero=>rfl
 | succ n ih=>rw [Tf,T8,ih,Tf,Sh];rfl
abbrev lM  (p:Addr) (o:Addr) (q:Addr) (H:Hp) (Q:VK) (E:XK):Prop:=∃ (ms:List Int) (os:%[0|48]) (ys:List Int),H p=%[ms|46]/\aR H o (os.map λ o=>[o.1,o.2])/\H q=some (.tup (ys.map V.int))/\ms.length<=8/\ys.length=os.length/\(∀ o∈os,0<=o.1/\o.1 < (ms.length:Int))/\∀ (r:Addr) (H':Hp),H r=none->Ext H H'->H' r=some (.tup ((dj ms os ys).map V.int))->Q (.ref r) H'
def kF  : Sp:=λ vs H Q E=>∃ (p:Addr) (o:Addr) (q:Addr),vs=[.ref p,.ref o,.ref q]/\(lM  p o q H Q E)
def ub  (p:Addr) (o:Addr) (q:Addr) (H:Hp) (Q:VK) (E:XK):kF  [.ref p,.ref o,.ref q] H Q E=(lM  p o q H Q E):=xf (f:=λ (p:Addr) (o:Addr) (q:Addr)=>[.ref p,.ref o,.ref q]) (λ _ _ _ _ _ _ h=>by cases h;exact⟨rfl,rfl,rfl⟩) p o q
def jt(T:Tx K mg t):%[1,wA|49] ["sizes", "order", "steps"] kF:=by
 refine T.F_wA.ok b9 (λ _ _ _ _ h=>xg h λ _ _ _=>rfl) %[0|50]
 ·obtain⟨p,o,q,rfl,ms,os,ys,hp,⟨us,ho,al⟩,hq,h8,a3,a4,k⟩:=h;refine⟨_,%[%[3,b9,%[yE,%[%[%[0|2]|1]|18],%[len,ao,%[%[0|0]|1]|6]|13]|4],%[%[RA,rfl,%[∅,T.z_zip,%[%[1|0],%[%[2|0]|1]|1],∅,∅|39],(%[(2),rfl,%[%[4,b9|5],%[%[5,b9|5],(@aK _),∅|16],∅|16],∅,∅|25].mono λ _ _ _ _ h=>bX h),%[(@pN _ _ _ _ _ _ (@ou _ _ _ _ _ _ _ _ %[(cV hr.units),%[cq,%[4|0],%[0|2],(λ _ _=>rfl)|12],%[0|2],(ar _)|15] %[5|0] %[eL,%[eL,%[cq,%[0|0],%[cq,%[4|0],%[0|2],(λ _ _=>rfl)|12],(λ _ _=>rfl)|12],%[0|2]|13],%[5|0]|13]) (@ur _ _ _ _ _ _ _ %[3|0] %[cq,%[4|0],%[0|2],(λ _ _=>rfl)|12] jO (by intros;rfl)) ∅ ∅ ∅)|10],(by intros;rfl)|21],%[%[%[ik,∅,T.z_tuple,nofun,%[%[3|0]|1],⋯,⋯,∅,∅|38]|11]|10]|9]|9],?_⟩;rw [show az ["sizes", "order", "steps", "place", "loop", "step"] [.ref p,.ref o,.ref q]=[%[p|45],%[o|45],%[q|45],none,none,none] from rfl];ac_rfl;intro z1 H1 bb e1 h1;have bt:=e1.at hp;ac_rfl;refine⟨by omega,by omega,ak (by simp;omega),?_⟩;intro r H2 a7 e2 h2;rw [Rt,uJ] at h2;have aX:=e1.trans e2;have a5:H r=none:=e1.free a7;have bx:=aX.at ho;have bS:=aX.at hq;ac_rfl;refine ko (ka:=false) (kb:=true) (xs:=us) (ys:=ys.map V.int) (λ i σ H'=>∃ v4 v5:Option V,σ=[%[p|45],%[o|45],%[q|45],%[r|45],v4,v5]/\Ext H H'/\H' r=some (.lst ((dj ms (os.take i) (ys.take i)).map V.int))) ⟨none,none,rfl,aX,h2⟩ (λ i σ H' ⟨_,_,_,e,_⟩=>⟨e.at ho,e.at hq⟩) ?_ ?_
  ·rintro i u x t _ H3 H4 hu hx ⟨v4,v5,rfl,e3,h3⟩ ht e4 h4;rw [Rq] at hx;obtain⟨y,hy,rfl⟩:=Rm.mp hx;have hi:i < os.length:=by rw [←a3];exact(Rf.mp hy).1
   obtain⟨w,rfl,hw⟩:=al.2 i [os[i].1,os[i].2] u (by rw [getElem?_map,getElem?_eq_getElem hi];rfl) hu;have aS:=λ (_:Unit)=>tu (ms:=ms) (getElem?_eq_getElem hi) hy;have hb:=a4 os[i] (getElem_mem hi);have a8:H4 w=some (.tup [.int os[i].1,.int os[i].2]):=(e3.trans e4).at hw;have b1:=(e3.trans e4).at hp;have a6:=e4.at h3;have hlen:(dj ms (os.take i) (ys.take i)).length=ms.length:=by unfold dj;rw [vV,length_replicate]
   unfold er at aS;generalize os[i]=oo at aS hb a8;obtain⟨o1,o2⟩:=oo;generalize dj ms (os.take i) (ys.take i)=pl at h3 a6 hlen aS;have b2:ixN pl.length o1=some o1.toNat:=B7 hb.1 (by rw [hlen];exact hb.2);have b3:=dC (vals:=ms) hb.1 hb.2;clear hu hx k a4 hlen h3 hw
   by_cases hg:o2=1
   ·simp! only [↓aD];refine⟨_,_,rfl,(e3.trans e4).put a5,?_⟩;rw [aS (),List.map_set];simp [hg]
   ·simp! only [↓aD];refine⟨_,_,rfl,(e3.trans e4).put a5,?_⟩;rw [aS (),List.map_set];simp [hg]
  ·rintro _ H3 ⟨v4,v5,rfl,e3,h3⟩;have hm:min us.length (ys.map V.int).length=os.length:=by rw [al.1,Rh,Rh];omega
   rw [hm,R6,←a3,R6] at h3;ac_rfl;intro r' H4 a9 e4 h4;exact k r' H4 (e3.free a9) (e3.trans e4) h4
abbrev vg  (q:Addr) (n:Int) (H:Hp) (Q:VK) (E:XK):Prop:=∃ a b:Int,H q=some (.tup [.int a,.int b])/\0<=a/\a < n/\(b=1\/b=-1)/\∀ H',Ext H H'->Q (.bl true) H'
def xH  : Sp:=λ vs H Q E=>∃ (q:Addr) (n:Int),vs=[.ref q,.int n]/\(vg  q n H Q E)
def EM  (q:Addr) (n:Int) (H:Hp) (Q:VK) (E:XK):xH  [.ref q,.int n] H Q E=(vg  q n H Q E):=iu (f:=λ (q:Addr) (n:Int)=>[.ref q,.int n]) (λ _ _ _ _ h=>by cases h;exact⟨rfl,rfl⟩) q n
def v8(T:Tx K mg t):%[3,Jc|49] ["thing", "many"] xH:=by
 have G_tY:=%[cE|44];have G_DX:=%[dH|44];refine T.F_Jc.ok BI (λ _ _ _ _ h=>iw h λ _ _=>rfl) %[0|50]
 ·obtain⟨q,n,rfl,a,b,hq,a0,a1,hb,k⟩:=h;refine⟨_,%[%[(PW.pt %[%[%[%[isinstance,bz,%[%[0|0],%[(@cY _ _ (.ty "tuple") (.type "tuple") _ ∅ T.z_tuple nofun rfl ⋯ ⋯)|1]|1]|6],(by intros;rfl)|28]|26],%[%[(dk hr.units),%[len,ao,%[%[0|0]|1]|6],%[0|2],(ar _)|15]|34]|33]),%[%[(@dw _ _ _ _)|11]|10],(@au _)|17],%[%[%[%[tY,%[%[cq,%[0|0],%[0|2],(λ _ _=>rfl)|12],%[%[1|0]|1]|1]|3],%[%[DX,%[%[cq,%[0|0],%[0|2],(λ _ _=>rfl)|12]|1]|3],%[%[Ll,%[cq,%[0|0],%[0|2],(λ _ _=>rfl)|12],%[%[%[0|2],%[(@xo _ _ _ _ _ _ ki %[0|2])|1]|1]|29],(by with_unfolding_all rfl)|31]|36]|30]|30]|11]|10]|9],?_⟩;rw [show az ["thing", "many"] [.ref q,.int n]=[%[q|45],%[n|47]] from rfl]
  have aS:gb (.int a) n=true:=by
   show (decide (0<=a) && decide (a < n))=true
   rw [Rp a0,Rp a1];rfl
  have hc:isW H (.int a)=some true:=rfl;ac_rfl;rw [lp,hc,kM,jN,aS];clear aS hc;ac_rfl;rw [bK];ac_rfl;intro z H1 hz e1 h1;have k':=k H1 e1
  have aX:inV (.int b) [.int 1,.int (-1)]=true:=by rcases hb with rfl|rfl<;>rfl
  clear k hb;ac_rfl;exact⟨rfl,rfl⟩
def dc(n:Nat)(H:Hp)(q:Addr)(os:%[0|48]):Prop:=aR H q (os.map λ o=>[o.1,o.2])/\os.length=n/\∀ o∈os,(0<=o.1/\o.1 < (n:Int))/\(o.2=1\/o.2=-1)
abbrev lL  (p:Addr) (q:Addr) (H:Hp) (Q:VK) (E:XK):Prop:=∃ (ms:List Int) (os:%[0|48]),H p=%[ms|46]/\ms.length<=8/\dc ms.length H q os/\(os.map λ o=>o.1).Nodup/\∀ H',Ext H H'->Q (.bl true) H'
def kD  : Sp:=λ vs H Q E=>∃ (p:Addr) (q:Addr),vs=[.ref p,.ref q]/\(lL  p q H Q E)
def ua  (p:Addr) (q:Addr) (H:Hp) (Q:VK) (E:XK):kD  [.ref p,.ref q] H Q E=(lL  p q H Q E):=iu (f:=λ (p:Addr) (q:Addr)=>[.ref p,.ref q]) (λ _ _ _ _ h=>by cases h;exact⟨rfl,rfl⟩) p q
def tH(T:Tx K mg t):%[4,IZ|49] ["sizes", "thing"] kD:=by
 have G_Jc:=%[v8|44];refine T.F_IZ.ok m4 (λ _ _ _ _ h=>iw h λ _ _=>rfl) %[0|50]
 ·obtain⟨p,q,rfl,ms,os,hp,h8,⟨⟨us,hu,al⟩,a3,a4⟩,a5,k⟩:=h;refine⟨_,%[(@fY _ _ (2) _ _ _ _ m4.nd rfl (Or.inr rfl) %[len,ao,%[%[0|0]|1]|6] ∅ %[0|7]),%[%[(PW.pt %[%[%[%[isinstance,bz,%[%[1|0],%[(@cY _ _ (.ty "list") (.type "list") _ ∅ T.z_list nofun rfl ⋯ ⋯)|1]|1]|6],(by intros;rfl)|28]|26],%[%[(dk hr.units),%[len,ao,%[%[1|0]|1]|6],%[2|0],(ar _)|15],%[%[%[%[all,(eS rfl),%[%[(["loop", "sizes", "thing", "many"]),(1),(aC (aa eV) ["sizes", "thing", "many"] rfl rfl nofun),rfl,%[%[1|0]|19],(λ _ _ _ _ _=>%[0,["loop", "sizes", "thing", "many"]|51]),(λ _ _ _ _ _=>(@aG _)),(λ _ _ _ _ _=>%[Jc,%[%[0|0],%[%[3|0]|1]|1]|3]),(by intros;rfl)|22]|1]|6],(by intros;rfl)|28]|26]|34]|33]|33]),%[%[(@dw _ _ _ _)|11]|10],(@au _)|17],%[%[%[(cV hr.units),%[len,wU,%[%[(Bu rfl),∅,T.z_set,nofun,%[%[(["loop", "sizes", "thing", "many"]),(1),(aC (aa eV) ["sizes", "thing", "many"] rfl rfl nofun),rfl,%[%[1|0]|19],(λ _ _ _ _ _=>%[0,["loop", "sizes", "thing", "many"]|51]),(λ _ _ _ _ _=>(@aG _)),(λ _ _ _ _ _=>%[cq,%[0|0],%[0|2],(λ _ _=>rfl)|12]),(by intros;rfl)|22]|1],⋯,⋯,∅,∅|38]|1]|6],%[2|0],(ar _)|31]|11]|10]|9]|9],?_⟩;rw [show az ["sizes", "thing", "many"] [.ref p,.ref q]=[%[p|45],%[q|45],none] from rfl];have a7:us.length=ms.length:=by rw [al.1,Rh,a3]
  have bt:(us.length:Int)=(ms.length:Int):=by omega
  have aX:=(G9 _).mpr a5;rw [Rh,a3] at aX;exists a4;exists k;have wk:=dv (K:=K) (R:=λ z x H'=>bE H' z x) (λ _ _ _ _ h e=>bE.ext h e) hu al;clear G_Jc a5 a7;ac_rfl;refine aV (os.map λ o=>[o.1,o.2]) (λ _=>true) (λ _=>.bl true) (λ z x H'=>bE H' z x) wk.1 wk.2 (ak (by rw [Rh];omega)) ?_ ?_
  ·intro D z y H' N1 N0 hz hD e hy k1 _;obtain⟨w',rfl,hw⟩:=hy;obtain⟨o,ho,rfl⟩:=Rj.mp hz;have a6:=k1 rfl;have hb:=a4 () o ho;clear k1 k hz wk aX;simp! only [↓aL,↓aJ];rw [EM];exact⟨o.1,o.2,hw,hb.1.1,hb.1.2,hb.2,a6⟩
  ·intro D H1 hD e1 h1;rw [ix] at h1;have bx:H1 D=some (.lst ((os.map λ _=>true).map V.bl)):=by rw [h1,Se,Se];rfl
   have ea:((os.map λ _=>true).all id)=true:=by rw [Vh];exact Sr.mpr λ _ _=>rfl
   have a8:=e1.at hu;have a9:=al.imp λ _ _ z=>bE.ext z e1;have aS:=dv (K:=K) (R:=λ z x H'=>bE H' z x) (λ _ _ _ _ h e=>bE.ext h e) a8 a9;clear h1 wk hu al;ac_rfl;refine aV (os.map λ o=>[o.1,o.2]) (λ _=>true) (λ z=>.int (z.getD 0 0)) (λ z x H'=>bE H' z x) aS.1 aS.2 (ak (by rw [Rh];omega)) ?_ ?_
   ·intro D z y H' N1 N0 hz hD e hy k1 _;obtain⟨w',rfl,hw⟩:=hy;obtain⟨o,ho,rfl⟩:=Rj.mp hz;have a6:N1 (.int o.1) H':=k1 rfl H' (Ext.refl _);clear k1 k hz aS aX;simp! only [↓aL,↓aJ]
   ·intro D2 H2 bS e2 h2;rw [ix,Se] at h2;have bb:H2 D2=some (.lst ((os.map λ o=>o.1).map V.int)):=by rw [h2,Se];rfl
    clear h2 aS;ac_rfl;refine GF bb (by rw [Rh];omega) ?_;intro S H3 hS e3 h3;have k2:=k () H3 (e1.trans (e2.trans e3));clear k;ac_rfl;refine Cn h3 ?_;ac_rfl
def szO(ms:List Int)(os:%[0|48]):List Int:=os.map λ o=>ms.getD o.1.toNat 0
def km{ms:List Int}{c:Int}(h0:0<=c)(h1:c < (ms.length:Int)):ms.getD c.toNat 0∈ms:=by
 have hn:c.toNat < ms.length:=by omega
 rw [RU,Rb hn];exact SQ hn
def Fb{ms:List Int}{os:%[0|48]}(hs:dA ms)(hl:os.length=ms.length)(ho:∀ o∈os,(0<=o.1/\o.1 < (ms.length:Int))/\(o.2=1\/o.2=-1)):dA (szO ms os):=by
 refine⟨by unfold szO;rw [length_map,hl];exact hs.1,λ n hn=>?_⟩;obtain⟨o,h,rfl⟩:=List.mem_map.mp hn;exact hs.2 _ (km (ho o h).1.1 (ho o h).1.2)
def qg{ns:List Int}{z:List Int}(h:z∈bB ns):z.length=ns.length:=by
 unfold bB at h;obtain⟨j,_,rfl⟩:=List.mem_map.mp h;rw [bo]
abbrev vd  (p:Addr) (q:Addr) (H:Hp) (Q:VK) (E:XK):Prop:=∃ (ms:List Int) (os:%[0|48]),H p=%[ms|46]/\ms.length<=8/\dc ms.length H q os/\(os.map λ o=>o.1).Nodup/\∀ H',Ext H H'->Q .non H'
def xE  : Sp:=λ vs H Q E=>∃ (p:Addr) (q:Addr),vs=[.ref p,.ref q]/\(vd  p q H Q E)
def u3  (p:Addr) (q:Addr) (H:Hp) (Q:VK) (E:XK):xE  [.ref p,.ref q] H Q E=(vd  p q H Q E):=iu (f:=λ (p:Addr) (q:Addr)=>[.ref p,.ref q]) (λ _ _ _ _ h=>by cases h;exact⟨rfl,rfl⟩) p q
def gy(T:Tx K mg t):%[5,wK|49] ["sizes", "order"] xE:=by
 have G_IZ:=%[tH|44];refine T.F_wK.ok mn (λ _ _ _ _ h=>iw h λ _ _=>rfl) %[0|50]
 ·obtain⟨p,q,rfl,ms,os,hp,h8,h1,aS,k⟩:=h;refine⟨_,%[%[%[%[%[IZ,%[%[0|0],%[%[1|0]|1]|1]|3],(by intros;rfl)|28]|26],%[(@b7 _ _)|10],(@au _)|17]|10],?_⟩;rw [show az ["sizes", "order"] [.ref p,.ref q]=[%[p|45],%[q|45]] from rfl];ac_rfl;rw [ua];refine⟨ms,os,hp,h8,h1,aS,λ H1 e1=>?_⟩;have k':=k H1 e1;clear k aS;ac_rfl
abbrev m5(cT:Addr)(p:Addr)(q:Addr)(H:Hp)(Q:VK)(E:XK):Prop:=∃ (ms:List Int) (os:%[0|48]),H p=%[ms|46]/\dA ms/\dc ms.length H q os/\(os.map λ o=>o.1).Nodup/\ae (szO ms os)<=4096/\∀ (r:Addr) (H':Hp),H r=none->Ext H H'->aR H' r ((bB (szO ms os)).map λ ys=>dj ms os ys)->Q (.ref r) H'
def nV(cT:Addr):Sp:=λ vs H Q E=>∃ (p:Addr) (q:Addr),vs=[.ref p,.ref q]/\(m5 cT p q H Q E)
def wV(cT:Addr)(p:Addr)(q:Addr)(H:Hp)(Q:VK)(E:XK):nV cT [.ref p,.ref q] H Q E=(m5 cT p q H Q E):=iu (f:=λ (p:Addr) (q:Addr)=>[.ref p,.ref q]) (λ _ _ _ _ h=>by cases h;exact⟨rfl,rfl⟩) p q
def vY(T:Tx K mg t):%[6,Jd|49] ["sizes", "order"] (nV t.a_VT):=by
 have G_wK:=%[gy|44];have G_VU:=%[qp|44];have G_wA:=%[jt|44];refine T.F_Jd.ok qD (λ _ _ _ _ h=>iw h λ _ _=>rfl) %[0|50]
 ·obtain⟨p,q,rfl,ms,os,hp,hs,h1,cf,hn,k1⟩:=h;refine⟨_,%[%[%[wK,%[%[0|0],%[%[1|0]|1]|1]|3],∅|20],%[%[2,qD,%[VU,%[%[(["loop", "sizes", "order", "walk"]),(1),(aC (aa gd) ["sizes", "order", "walk"] rfl rfl nofun),rfl,%[%[1|0]|19],(λ _ _ _ _ _=>%[0,["loop", "sizes", "order", "walk"]|51]),(λ _ _ _ _ _=>(@aG _)),(λ _ _ _ _ _=>%[cq,%[1|0],%[cq,%[0|0],%[0|2],(λ _ _=>rfl)|12],(λ _ _=>rfl)|12]),(by intros;rfl)|22]|1]|3]|4],%[%[%[(["steps", "sizes", "order", "walk"]),(1),(aC (aa gd) ["sizes", "order", "walk"] rfl rfl nofun),rfl,%[%[2|0]|19],(λ _ _ _ _ _=>%[0,["steps", "sizes", "order", "walk"]|51]),(λ _ _ _ _ _=>(@aG _)),(λ _ _ _ _ _=>%[wA,%[%[1|0],%[%[2|0],%[%[0|0]|1]|1]|1]|3]),(by intros;rfl)|22]|11]|10]|9]|9],?_⟩;rw [show az ["sizes", "order", "walk"] [.ref p,.ref q]=[%[p|45],%[q|45],none] from rfl];ac_rfl;rw [u3];refine⟨ms,os,hp,hs.1,h1,cf,λ H1 e1=>?_⟩;obtain⟨⟨us,hu,al⟩,cm,aS⟩:=h1;have aX:=e1.at hu;have a3:=e1.at hp;have a4:=al.imp λ _ _ z=>bE.ext z e1;have h8:=hs.1;ac_rfl;refine aV (os.map λ o=>[o.1,o.2]) (λ _=>true) (λ z=>.int (ms.getD (z.getD 0 0).toNat 0)) (λ z x H'=>bE H' z x) (dv (R:=λ z x H'=>bE H' z x) (λ _ _ _ _ h e=>bE.ext h e) aX a4).1 (dv (R:=λ z x H'=>bE H' z x) (λ _ _ _ _ h e=>bE.ext h e) aX a4).2 (ak (by rw [Rh];omega)) ?_ ?_
  ·intro D z y H' N1 N0 hz hD e hy kk _;obtain⟨w,rfl,hw⟩:=hy;obtain⟨o,ho,rfl⟩:=Rj.mp hz;have a6:N1 (.int (ms.getD o.1.toNat 0)) H':=kk rfl H' (Ext.refl _);have bb:=e.at a3;have c4:=dC (vals:=ms) (aS o ho).1.1 (aS o ho).1.2;clear kk k1 hz aS hp a3 hu aX;simp! only [↓aL,↓aJ]
  ·intro D H2 hD e2 h2;rw [ix,map_map] at h2;have cF:H2 D=some (.lst ((szO ms os).map V.int)):=by rw [h2];unfold szO;rw [map_map];rfl
   have c5:=Fb hs cm aS;have cS:=e1.trans e2;have bt:=e2.at a3;have bx:=e2.at aX;have bS:=a4.imp λ _ _ z=>bE.ext z e2;clear h2 a3 aX a4;simp! only [↓m3,↓iY];rw [yl];refine⟨λ _ W H3 hW e3 h3=>?_,λ h=>absurd h %[0|8]⟩;have a6:=k1;clear k1;obtain⟨ws,a7,a8⟩:=h3;have b1:=e3.at bt;have b2:=e3.at bx;have a5:=bS.imp λ _ _ z=>bE.ext z e3;have c6:(bB (szO ms os)).length<=4096:=by rw [eP];omega
   clear cF bt bx bS;ac_rfl;refine iH (bB (szO ms os)) (λ _=>true) (λ z x H'=>bE H' z x) (λ D z y H'=>∃ q,y=.ref q/\q ≠ D/\H' q=some (.tup ((dj ms os z).map V.int))) (dv (R:=λ z x H'=>bE H' z x) (λ _ _ _ _ h e=>bE.ext h e) a7 a8).1 (dv (R:=λ z x H'=>bE H' z x) (λ _ _ _ _ h e=>bE.ext h e) a7 a8).2 (λ D _ y H1 H2 ⟨q,h1,h2,h3⟩ e=>⟨q,h1,h2,e.at h3⟩) (λ D _ y H1 o ⟨q,h1,h2,h3⟩=>⟨q,h1,h2,by rw [ah h2];exact h3⟩) (ak %[0|8]) ?_ ?_
   ·intro D2 z y H' N1 N0 hz b3 e ⟨c7,b4⟩ hx kk _;obtain⟨w,rfl,hw⟩:=hx;have cT:=kk rfl;have bb:=e.at b1;have c0:=e.at b2;have c1:=a5.imp λ _ _ z=>bE.ext z e;have c2:=qg hz;clear kk b1 b2 a5 a6 a7 a8 hz;simp! only [↓aL,↓aJ];rw [ub];refine⟨ms,os,z,bb,⟨us,c0,c1⟩,hw,h8,by rw [c2];unfold szO;rw [length_map],λ o ho=>(aS o ho).1,λ r H4 b5 e4 h4=>?_⟩;exact cT _ H4 e4 ⟨r,rfl,(λ z=>by rw [z,b4] at b5;cases b5),h4⟩
   ·intro D2 ys H4 b3 e4 c3 a9;rw [ix] at a9;have cb:=cS.trans e3;refine a6 D2 H4 (cb.free b3) (cb.trans e4) ⟨ys,c3,?_,λ i z y hz hy=>?_⟩
    ·rw [a9.1,Rh]
    ·rw [Rq] at hz;obtain⟨j,hj,rfl⟩:=Rm.mp hz;obtain⟨q,h1,_,h3⟩:=a9.2 i j y hj hy;exact⟨q,h1,h3⟩
def mw(ms:List Int)(o:Int × Int):List Int:=(List.range (ms.getD o.1.toNat 0).toNat).map λ (k:Nat)=>er ms o (k:Int)
def aF(ms:List Int)(os:%[0|48]):List (List Int):=os.foldl (λ fs o=>fs.flatMap λ pl=>(mw ms o).map λ k=>pl.set o.1.toNat k) [List.replicate ms.length 0]
def gF(ms:List Int)(os:%[0|48])(o:Int × Int):aF ms (os++[o])=(aF ms os).flatMap λ pl=>(mw ms o).map λ k=>pl.set o.1.toNat k:=by
 unfold aF;rw [foldl_append];rfl
def tw(ms:List Int)(os:%[0|48])(o:Int × Int)(ys:List Int)(y:Int)(h:ys.length=os.length):dj ms (os++[o]) (ys++[y])=(dj ms os ys).set o.1.toNat (er ms o y):=by
 unfold dj;rw [List.zip_append %[0|8],foldl_append];rfl
def jC{α β:Type}{f g:α->List β}:∀ {l:List α},(∀ x∈l,f x=g x)->l.flatMap f=l.flatMap g
 | [],_=>rfl
 | x::l,h=>by rw [T9,T9,h x Rr,jC λ y hy=>h y (Ro _ hy)]
def yn(ms:List Int)(hs:∀ n∈ms,1<=n/\n<=1000000000)(os:%[0|48])(ho:∀ o∈os,0<=o.1/\o.1 < (ms.length:Int)):(bB (szO ms os)).map (λ ys=>dj ms os ys)=aF ms os:=by
 suffices h:∀ (n:Nat) (os:%[0|48]),os.length=n->(∀ o∈os,0<=o.1/\o.1 < (ms.length:Int))->(bB (szO ms os)).map (λ ys=>dj ms os ys)=aF ms os from h _ os rfl ho
 intro n
 induction n with
 | zero=>
  intro os h _;have:os=[]:=List.length_eq_zero_iff.mp h;subst this;rfl
 | succ n ih=>
  intro os h ho;obtain⟨as,o,rfl⟩:∃ as o,os=as++[o]:=⟨os.dropLast,os.getLast (by intro e;rw [e] at h;simp at h),(VM _).symm⟩;have aX:as.length=n:=by rw [RI,Ug] at h;omega
  have a3:=ih as aX λ o h=>ho o (RB _ h);have aS:=ho o (RG _ (Rg.mpr rfl));have hm:=hs _ (km aS.1 aS.2)
  have a4:∀ n∈szO ms as,1<=n/\n<=1000000000:=λ n hn=>by
   obtain⟨o,h,rfl⟩:=Rj.mp hn;have:=ho o (RB _ h);exact hs _ (km this.1 this.2)
  have e1:szO ms (as++[o])=szO ms as++[ms.getD o.1.toNat 0]:=by unfold szO;rw [map_append];rfl
  rw [e1,mL _ _ (by have:=cW _ a4;omega) %[0|8],gF,←a3,List.map_flatMap,List.flatMap_map];refine jC λ row hr=>?_;have a5:=qg hr;rw [map_map];unfold mw;rw [map_map];refine List.map_congr_left λ k _=>?_
  show dj ms (as++[o]) (row++[(k:Int)])=_
  rw [tw _ _ _ _ _ (by rw [a5];unfold szO;rw [length_map])];rfl
def CD(n:Nat):((List.range n).map λ (k:Nat)=>(k:Int)).reverse=(List.range n).map λ (k:Nat)=>(n:Int) - 1 - (k:Int):=by
 refine UG (by simp) λ i h1 h2=>?_;simp at h1 h2 ⊢;omega
def GC(ms:List Int)(o:Int × Int)(h:o.2=1)(h0:0<=ms.getD o.1.toNat 0):xh (ms.getD o.1.toNat 0)=(mw ms o).map V.int:=by
 unfold xh mw er;rw [map_map,h];rfl
def GB(ms:List Int)(o:Int × Int)(h:o.2=-1)(h0:0<=ms.getD o.1.toNat 0):(xh (ms.getD o.1.toNat 0)).reverse=(mw ms o).map V.int:=by
 have e1:xh (ms.getD o.1.toNat 0)=((List.range (ms.getD o.1.toNat 0).toNat).map λ (k:Nat)=>(k:Int)).map V.int:=by unfold xh;rw [map_map];rfl
 have e2:(mw ms o)=(List.range (ms.getD o.1.toNat 0).toNat).map λ (k:Nat)=>(((ms.getD o.1.toNat 0).toNat:Nat):Int) - 1 - (k:Int):=by
  unfold mw er;rw [h,Int.toNat_of_nonneg h0];refine List.map_congr_left λ k _=>?_;rw [if_neg ⋯]
 rw [e1,←VG,CD,e2]
def zE{ms:List Int}:∀ {os:%[0|48]}{z:List Int},z∈aF ms os->z.length=ms.length:=by
 intro os;unfold aF
 suffices h:∀ (os:%[0|48]) (fs:List (List Int)),(∀ z∈fs,z.length=ms.length)->∀ z∈os.foldl (λ fs o=>fs.flatMap λ pl=>(mw ms o).map λ k=>pl.set o.1.toNat k) fs,z.length=ms.length from λ {z} hz=>h os _ (λ z hz=>by rw [Rg.mp hz,S3]) z hz
 intro os
 induction os with
 | nil=>exact λ fs h=>h
 | cons o os ih=>
  intro fs h;refine ih _ λ z hz=>?_;obtain⟨pl,hp,hz⟩:=S1.mp hz;obtain⟨k,_,rfl⟩:=Rj.mp hz;rw [Th];exact h pl hp
def G0(pl:List Int)(a:Nat)(k:Int)(h:a < pl.length):pl.take a++[k]++pl.drop (a+1)=pl.set a k:=by
 rw [List.set_eq_take_append_cons_drop,RP h,Vs];rfl
def o9{a b:Int}(ha:0<=a)(hb:0<=b):a.toNat * b.toNat=(a * b).toNat:=by
 obtain⟨x,rfl⟩:=RF ha;obtain⟨y,rfl⟩:=RF hb;rfl
def Ct{ms:List Int}{os:%[0|48]}{i:Nat}{o:Int × Int}(hi:os[i]? = some o)(hs:∀ n∈szO ms os,1<=n/\n<=1000000000)(hc:ae (szO ms os)<=4096):(bB (szO ms (os.take i))).length * (ms.getD o.1.toNat 0).toNat<=4096/\(bB (szO ms (os.take i))).length<=4096/\ms.getD o.1.toNat 0<=4096:=by
 have e1:szO ms (os.take i)=(szO ms os).take i:=by unfold szO;rw [List.map_take]
 have hm:(szO ms os)[i]? = some (ms.getD o.1.toNat 0):=by unfold szO;rw [getElem?_map,hi];rfl
 have hn:=hs _ (Rx hm);have q1:=lO (szO ms os) hs (i+1);rw [R7,hm,Vk,aT,show ae [ms.getD o.1.toNat 0]=ms.getD o.1.toNat 0 by simp [ae]] at q1;have q2:=(cW ((szO ms os).take i) λ n hn=>hs n (Sk hn)).1;rw [e1,eP];generalize ae ((szO ms os).take i)=a at *;generalize ms.getD o.1.toNat 0=b at *;have q3:=o9 (a:=a) (b:=b) %[0|8] %[0|8];have q4:=Td hn.1 (show (0:Int)<=a by omega);have q5:=R5 q2 (show (0:Int)<=b by omega);omega
def pW{ms:List Int}{os:%[0|48]}(hs:∀ n∈ms,1<=n/\n<=1000000000)(ho:∀ o∈os,0<=o.1/\o.1 < (ms.length:Int)):(aF ms os).length=(bB (szO ms os)).length:=by
 rw [←yn ms hs os ho,Rh]
def qA{α β:Type}(zs:List α)(f:α->List β)(j:Nat)(z:α)(h:zs[j]? = some z):(zs.take (j+1)).flatMap f=(zs.take j).flatMap f++f z:=by
 rw [U8,h,Ut];simp
def uV{α β:Type}(zs:List α)(f:α->List β)(n:Nat)(hf:∀ z∈zs,(f z).length=n):∀ j:Nat,((zs.take j).flatMap f).length<=zs.length * n:=by
 intro j
 have e:∀ l:List α,(∀ z∈l,(f z).length=n)->(l.flatMap f).length=l.length * n:=by
  intro l
  induction l with
  | nil=>simp
  | cons a r ih=>intro h;rw [T9,RI,ih λ z hz=>h z (Ro _ hz),h a Rr,Sy,Nat.succ_mul,Nat.add_comm]
 rw [e _ λ z hz=>hf z (Sk hz)];exact Uk n (by rw [R0];omega)
def pT{α:Type}{R:α->V->Prop}{zs ws:List α}{ys us:List V}(h:Al R zs ys)(h':Al R ws us):Al R (zs++ws) (ys++us):=by
 refine⟨by rw [RI,RI,h.1,h'.1],λ i z y hz hy=>?_⟩
 by_cases hi:i < zs.length
 ·rw [R8 hi] at hz;rw [R8 (by rw [h.1];exact hi)] at hy;exact h.2 i z y hz hy
 ·rw [R1 %[0|8]] at hz;rw [R1 (by rw [h.1];omega),h.1] at hy;exact h'.2 _ z y hz hy
def Eb{xs:List V}{n:Int}{H:Hp}{Q:VK}(h0:0<=n)(h1:n < xs.length)(q:iW (.tup (xs.take n.toNat)) H Q):Nq none (some n) H Q xs:=by
 obtain⟨k,rfl⟩:=RF h0;refine⟨λ e=>?_,?_⟩
 ·have:=e.2;rw [HT.sIx_nat] at this;omega
 ·rw [EF xs _ h0];exact q
def Ec{xs:List V}{n:Int}{H:Hp}{Q:VK}(h0:1<=n)(h1:n<=xs.length)(q:iW (.tup (xs.drop n.toNat)) H Q):Nq (some n) none H Q xs:=by
 obtain⟨k,rfl⟩:=RF (show 0<=n by omega);refine⟨λ e=>?_,?_⟩
 ·have:=e.1;rw [HT.sIx_nat] at this;omega
 ·rw [EE xs _ (show (0:Int)<=(k:Int) by omega)];exact q
def xA  : Sp:=λ vs H Q E=>∃ (p:Addr) (q:Addr),vs=[.ref p,.ref q]/\(∃ (ms:List Int) (os:%[0|48]),H p=%[ms|46]/\dA ms/\dc ms.length H q os/\ae (szO ms os)<=4096/\∀ (r:Addr) (H':Hp),Ext H H'->aR H' r (aF ms os)->Q (.ref r) H')
def EI  (p:Addr) (q:Addr) (H:Hp) (Q:VK) (E:XK):xA  [.ref p,.ref q] H Q E=(∃ (ms:List Int) (os:%[0|48]),H p=%[ms|46]/\dA ms/\dc ms.length H q os/\ae (szO ms os)<=4096/\∀ (r:Addr) (H':Hp),Ext H H'->aR H' r (aF ms os)->Q (.ref r) H'):=iu (f:=λ (p:Addr) (q:Addr)=>[.ref p,.ref q]) (λ _ _ _ _ h=>by cases h;exact⟨rfl,rfl⟩) p q
def rm(T:Tx K mg t):%[1,DU|49] ["_law_sizes", "_law_order"] xA:=by
 refine T.F_DU.ok bM (λ _ _ _ _ h=>iw h λ _ _=>rfl) %[0|50]
 ·obtain⟨p,q,rfl,ms,os,hp,hs,⟨⟨us,hu,al⟩,c7,a9⟩,hc,kk⟩:=h;refine⟨_,%[%[2,bM,%[%[%[ik,∅,T.z_tuple,nofun,%[%[yE,%[%[%[0|2]|1]|18],%[len,ao,%[%[0|0]|1]|6]|13]|1],⋯,⋯,∅,∅|38]|1]|18]|4],%[%[RA,rfl,%[%[1|0]|19],(%[(2),rfl,%[%[(3),_,bM.nd,rfl,(Or.inr rfl),%[0|7]|14],%[%[4,bM|5],(@aK _),∅|16],∅|16],∅,∅|25].mono λ _ _ _ _ h=>bX h),%[%[5,bM,(@rf _ _ _ _ _ _ _ rfl ∅ T.z_list ∅ T.z_range %[%[cq,%[0|0],%[3|0],(λ _ _=>rfl)|12]|1] ∅ ∅ ∅)|4],%[%[%[(cV hr.units),%[4|0],(@xo _ _ _ _ _ _ ki %[0|2]),(ar _)|15],%[%[(@x8 _ _ _ _ _ _ _ _ _ RS UC UB jn %[5|0] ∅ ∅),∅|20]|10],(@au _)|17],%[%[6,bM,%[(@cU _)|18]|4],%[%[RA,rfl,%[%[2|0]|19],%[(7),_,bM.nd,rfl,(Or.inr rfl),%[0|7]|14],%[%[%[RS,TK,TJ,iK,%[6|0],%[%[(["_law_k", "_law_sizes", "_law_order", "_law_found", "_law_axis", "_law_way", "_law_numbers", "_law_longer", "_law_place"]),(1),(aC (aa fj) ["_law_sizes", "_law_order", "_law_found", "_law_axis", "_law_way", "_law_numbers", "_law_longer", "_law_place"] rfl rfl nofun),rfl,%[%[5|0]|19],(λ _ _ _ _ _=>%[0,["_law_k", "_law_sizes", "_law_order", "_law_found", "_law_axis", "_law_way", "_law_numbers", "_law_longer", "_law_place"]|51]),(λ _ _ _ _ _=>(@aG _)),(λ _ _ _ _ _=>%[oy,%[oy,%[Kd,%[8|0],(@gY _),(@gX _ _ _ %[4|0])|41],%[%[%[0|0]|1]|29]|13],%[Kd,%[8|0],(@gX _ _ _ %[cv,%[4|0],%[0|2]|13]),(@gY _)|41]|13]),(by intros;rfl)|22]|1],∅,∅,∅,∅,∅|37],∅|20]|10],(by intros;rfl)|21],%[%[2,bM,%[6|0]|4]|10]|9]|9]|9]|9],(by intros;rfl)|21],%[%[%[2|0]|11]|10]|9]|9],?_⟩;rw [show az ["_law_sizes", "_law_order", "_law_found", "_law_axis", "_law_way", "_law_numbers", "_law_longer", "_law_place"] [.ref p,.ref q]=[%[p|45],%[q|45],none,none,none,none,none,none] from rfl];have h8:=hs.1;have c8:=Fb hs c7 a9;have bt:∀ o∈os,0<=o.1/\o.1 < (ms.length:Int):=λ o ho=>(a9 o ho).1;ac_rfl;intro z1 H1 ei e1 h1;have de:=e1.at hp;ac_rfl;refine⟨by omega,by omega,ak (by simp;omega),?_⟩;intro z2 H2 ej e2 h2;rw [Rt,uJ] at h2;ac_rfl;intro z3 H3 el e3 h3;ac_rfl;intro r H4 en e4 h4;have b2:=e1.trans (e2.trans (e3.trans e4));have dy:=b2.at hu;have dz:=b2.at hp;have t4:aR H4 r (aF ms (os.take 0)):=⟨_,h4,Al.snoc (zs:=[]) (ys:=[]) Al.nil ⟨z3,rfl,e4.at h3⟩⟩;clear h1 h2 h3 h4 de;ac_rfl;refine cw (xs:=us) (λ i σ H'=>∃ (r:Addr) (v3 v4 v5 v6 v7:Option V),σ=[%[p|45],%[q|45],%[r|45],v3,v4,v5,v6,v7]/\Ext H H'/\aR H' r (aF ms (os.take i))) ⟨r,_,_,_,_,_,rfl,b2,t4⟩ (λ i σ H' _ ⟨_,_,_,_,_,_,_,e,_⟩=>e.at hu) ?_ ?_
  ·rintro i x _ H5 hi ⟨r,v3,v4,v5,v6,v7,rfl,e5,⟨ys,b3,cf⟩⟩;have bb:i < os.length:=by have h1:=(Rf.mp hi).1;have h2:=al.1;rw [Rh] at h2;omega
   obtain⟨w,rfl,hw⟩:=al.2 i [os[i].1,os[i].2] x (by rw [Rq,Rb bb];rfl) hi;have hb:=a9 os[i] (SQ bb);have d0:=Ct (Rb bb) c8.2 hc
   have hW:aF ms (os.take (i+1))=(aF ms (os.take i)).flatMap λ pl=>(mw ms os[i]).map λ k=>pl.set os[i].1.toNat k:=by
    rw [R7,Rb bb];exact gF _ _ _
   have cm:=pW (os:=os.take i) hs.2 λ o ho=>bt o (mem_of_mem_take ho);rw [←cm] at d0;have bx:∀ z∈aF ms (os.take i),z.length=ms.length:=λ z hz=>zE hz;have hn:=hs.2 _ (km hb.1.1 hb.1.2);have b4:=GC ms os[i];have b5:=GB ms os[i];have a6:(mw ms os[i]).length=(ms.getD os[i].1.toNat 0).toNat:=by unfold mw;rw [length_map,length_range]
   have cF:H5 w=some (.tup [.int os[i].1,.int os[i].2]):=e5.at hw;generalize os[i]=o at *;obtain⟨o1,o2⟩:=o;generalize aF ms (os.take i)=fs at *;have d1:=dC (vals:=ms) hb.1.1 hb.1.2;have d2:=e5.at hp;dsimp only at *;generalize ms.getD o1.toNat 0=m at *;exists bx;exists hW;exists cm;exists b4;exists b5;exists a6;clear hi a9 bt hw dy dz t4;simp! only [↓aD];rw [Oz];refine⟨by omega,by omega,?_⟩;intro nl H6 d3 e6 h6;have d4:=e6.at b3;have d5:=e6.at cF;clear d2 cF;simp! only [-pQ];refine uy (λ σ' H'=>σ'=[some (V.ref p),some (V.ref q),some (V.ref r),some (V.int o1),some (V.int o2),some (V.ref nl),v6,v7]/\Ext H5 H'/\H' nl=some (.lst ((mw ms (o1,o2)).map V.int))) (λ ep hx=>?_) ?_
   ·rcases hb.2 with h|h
    ·have cS:=hx _ H6 ⟨rfl,e6,by rw [←b4 () h %[0|8]];exact h6⟩;clear hx;subst h;ac_rfl
    ·have cS:=hx _ (upd H6 nl (.lst ((mw ms (o1,o2)).map V.int))) ⟨rfl,e6.put d3,aq⟩;rw [←b5 () h %[0|8]] at cS;clear hx;subst h;ac_rfl
   rintro _ H7 ⟨rfl,e7,h7⟩;have cT:=e7.at b3;have d6:=e5.trans e7;have c0:=cf.imp λ _ _ z=>bE.ext z e7;generalize mw ms (o1,o2)=wl at *;clear b4 b5 h6 d4 b3 e6 d5 cf d1;ac_rfl;intro L H8 hL e8 d7;have d8:=e8.at cT;ac_rfl;refine cw (xs:=ys) (λ j σ H'=>∃ (v7:Option V) (aX:List V),σ=[%[p|45],%[q|45],%[r|45],%[o1|47],%[o2|47],%[nl|45],%[L|45],v7]/\Ext H7 H'/\H' L=some (.lst aX)/\Al (bE H') ((fs.take j).flatMap λ pl=>wl.map λ k=>pl.set o1.toNat k) aX) ⟨_,[],rfl,e8,d7,by simpa using Al.nil⟩ (λ j σ H' _ ⟨_,_,_,e,_⟩=>e.at cT) ?_ ?_
   ·rintro j y _ H9 hj ⟨v7,aX,rfl,e9,h9,a7⟩;obtain⟨z,hz,w9,rfl,c1⟩:=cL (c0.imp λ _ _ z=>bE.ext z e9) hj;have et:=bx () z (Rx hz);have bS:=qA fs (λ pl=>wl.map λ k=>pl.set o1.toNat k) j z hz;have a8:=e9.at h7;clear d8;simp! only [↓aD];have c2:Al (λ (k:Int) y=>y=.int k) wl (wl.map V.int):=⟨by rw [Rh],λ i a y ha hy=>by rw [Rq,ha] at hy;exact(RE hy).symm⟩;refine iH wl (λ _=>true) (λ k x _=>x=.int k) (λ D k y H'=>∃ q,y=.ref q/\q ≠ D/\H' q=some (.tup ((z.set o1.toNat k).map V.int))) (dv (R:=λ k x _=>x=.int k) (λ _ _ _ _ h _=>h) a8 c2).1 (dv (R:=λ k x _=>x=.int k) (λ _ _ _ _ h _=>h) a8 c2).2 (λ D _ y H1 H2 ⟨q,h1,h2,h3⟩ e=>⟨q,h1,h2,e.at h3⟩) (λ D _ y H1 o ⟨q,h1,h2,h3⟩=>⟨q,h1,h2,by rw [ah h2];exact h3⟩) (ak (by rw [a6 ()];omega)) ?_ ?_
    ·intro D k y H' N1 N0 hk hD e ⟨ew,c3⟩ hx kc _;subst hx;have d9:=kc rfl;have ea:=e.at c1;clear kc hk c1 h9 a8 hj;simp! only [↓aL,↓aJ];refine Eb hb.1.1 (by rw [Rh];omega) ?_;intro a1 G1 ey f1 g1;ac_rfl;intro a2 G2 ez f2 g2;have c4:=f2.at g1;ac_rfl;rw [xv];refine⟨ak (by rw [R0,Rh];simp;omega),λ a3 G3 f3 g3=>?_⟩;have eH:=(f1.trans (f2.trans f3)).at ea;clear g1 c4 g2;ac_rfl;refine Ec %[0|8] (by rw [Rh];omega) ?_;intro a4 G4 e0 f4 g4;have ec:=f4.at g3;ac_rfl;rw [xv];refine⟨ak (by simp;omega),λ a5 G5 f5 g5=>?_⟩;have c5:=f1.trans (f2.trans (f3.trans (f4.trans f5)));refine d9 _ G5 c5 ⟨a5,rfl,λ e=>?_,?_⟩
     ·rw [e,c5.at c3] at g5;cases g5
     ·rw [g5,←G0 z o1.toNat k %[0|8],show (o1+1).toNat=o1.toNat+1 by omega];simp
    ·intro D ws fa hD cb eg aS;rw [ix] at aS;have b1:=cb.at h9;have fb:D ≠ L:=λ e=>by rw [e,h9] at hD;cases hD
     have c6:=a7.imp λ _ _ z=>bE.ext z cb;have eb:=uV fs (λ pl=>wl.map λ k=>pl.set o1.toNat k) m.toNat (λ z _=>by rw [Rh];exact a6 ()) (j+1);rw [bS,RI,Rh] at eb;have fo:aX.length+ws.length<=sizeLine:=ak (by rw [a7.1,aS.1];omega);clear bS h9;ac_rfl;refine⟨_,_,rfl,?_,rfl,?_⟩
     ·exact(e9.trans cb).put hL
     ·refine pT (c6.imp λ _ _ t=>t.upd b1) ⟨by rw [Rh,aS.1],λ i a y ha hy=>?_⟩;rw [Rq] at ha;obtain⟨k,hk,rfl⟩:=Rm.mp ha;obtain⟨q',h1,_,h3⟩:=aS.2 i k y hk hy;exact⟨q',h1,by rw [ah (λ e=>by rw [e,b1] at h3;cases h3)];exact h3⟩
   ·rintro _ H9 ⟨v7,aX,rfl,e9,h9,a7⟩;rw [c0.1,R6] at a7;ac_rfl;exact⟨L,_,_,_,_,_,rfl,d6.trans e9,aX,h9,by rw [hW ()];exact a7⟩
  ·rintro _ H5 ⟨r,v3,v4,v5,v6,v7,rfl,e5,tt⟩;rw [al.1,Rh,R6] at tt;ac_rfl;exact kk r H5 e5 tt
def vT{l1 l2:List Int}(h:l1.Perm l2):ae l1=ae l2:=by
 induction h with
 | nil=>rfl
 | cons x _ ih=>show x * _=x * _;rw [ih]
 | swap x y l=>show y * (x * ae l)=x * (y * ae l);rw [←TV,←TV,SW y x]
 | trans _ _ i1 i2=>exact i1.trans i2
def Q9(ms:List Int)(v:Int):Int:=ms.getD v.toNat 0
def SzK(ms:List Int):Prop:=ms.length<=8/\(∀ m∈ms,1<=m/\m<=4096)/\ae ms<=4096
def SzK.pos{ms:List Int}(h:SzK ms):(∀ m∈ms,1<=m/\m<=4096)/\ms.length<=8/\ae ms<=4096:=⟨h.2.1,h.1,h.2.2⟩
def BD:List Int->List Int->Prop
 | [],[]=>True
 | s::ms,d::ds=>(d.natAbs:Int)<=s - 1/\BD ms ds
 | _,_=>False
def iG(x p:Int)(xs ps:List Int):gB (x::xs) (p::ps)=x * p+gB xs ps:=by
 unfold gB;rw [zipWith_cons_cons,sum_cons]
def pG:List Int->List Int->Prop
 | [],[]=>True
 | _::ms,p::ps=>(p.natAbs:Int)=ae ms/\pG ms ps
 | _,_=>False
def pG.len:∀ {ms ps:List Int},pG ms ps->ps.length=ms.length
 | [],[],_=>rfl
 | [],_::_,h=>h.elim
 | _::_,[],h=>h.elim
 | _::ms,_::ps,h=>SA (· + 1) (pG.len h.2)
def pG.span:∀ {ms ps d:List Int},pG ms ps->(∀ m∈ms,(1:Int)<=m)->BD ms d->((gB d ps).natAbs:Int)<=ae ms - 1
 | [],[],[],_,_,_=>by decide
 | [],_::_,_,h,_,_=>h.elim
 | _::_,[],_,h,_,_=>h.elim
 | [],_,_::_,_,_,h=>h.elim
 | _::_,_,[],_,_,h=>h.elim
 | s::ms,p::ps,x::d,h,h1,hb=>by
  have ih:=pG.span h.2 (λ m hm=>h1 m (Ro _ hm)) hb.2;rw [iG]
  show _<=s * ae ms - 1
  have e:((x * p).natAbs:Int)<=(s - 1) * ae ms:=by
   rw [Int.natAbs_mul,Uu,h.1];exact R5 hb.1 %[0|8]
  rw [Int.sub_mul,Int.one_mul] at e;omega
def Gu(ms ps:List Int):Prop:=∀ d,BD ms d->gB d ps=0->∀ a:Nat,a < ms.length->d.getD a 0=0
def pG.inj:∀ {ms ps:List Int},pG ms ps->(∀ m∈ms,(1:Int)<=m)->Gu ms ps
 | [],_,_,_=>λ _ _ _ a ha=>absurd ha (TR _)
 | _::_,[],h,_=>h.elim
 | s::ms,p::ps,h,h1=>λ d hd h0 a ha=>by
  cases d with
  | nil=>exact hd.elim
  | cons x d=>
   have aS:∀ m∈ms,(1:Int)<=m:=λ m hm=>h1 m (Ro _ hm);have hs:=pG.span h.2 aS hd.2;have hP:=bJ ms aS;rw [iG] at h0
   have hx:x=0:=by
    apply Classical.byContradiction;intro aX
    have:ae ms<=((x * p).natAbs:Int):=by
     rw [Int.natAbs_mul,Uu,h.1];have:=R5 (show (1:Int)<=(x.natAbs:Int) by omega) (show 0<=ae ms by omega);omega
    omega
   subst hx
   cases a with
   | zero=>rfl
   | succ a=>
    rw [VA,RZ] at h0;exact pG.inj h.2 aS d hd.2 h0 a (Nat.lt_of_succ_lt_succ ha)
def pG.le:∀ {ms ps:List Int},pG ms ps->(∀ m∈ms,(1:Int)<=m)->∀ p∈ps,(p.natAbs:Int)<=ae ms
 | [],[],_,_=>λ _ h=>by cases h
 | [],_::_,h,_=>h.elim
 | _::_,[],h,_=>h.elim
 | s::ms,p::ps,h,h1=>λ q hq=>by
  have aS:∀ m∈ms,(1:Int)<=m:=λ m hm=>h1 m (Ro _ hm);have hP:=bJ ms aS;have hs:=h1 s Rr
  have hm:ae ms<=s * ae ms:=by
   have:=R5 hs (show 0<=ae ms by omega);omega
  show _<=s * ae ms
  rcases Rz.mp hq with rfl|hq
  ·rw [h.1];exact hm
  ·have:=pG.le h.2 aS q hq;omega
def yO:∀ {x y ps:List Int},x.length=ps.length->y.length=ps.length->gB (List.zipWith (λ a b=>a - b) x y) ps=gB x ps - gB y ps
 | [],[],[],_,_=>rfl
 | _::_,_,[],h,_=>by simp at h
 | _,_::_,[],_,h=>by simp at h
 | [],_,_::_,h,_=>by simp at h
 | _,[],_::_,_,h=>by simp at h
 | a::x,b::y,p::ps,hx,hy=>by
  have ih:=yO (x:=x) (y:=y) (ps:=ps) (by simpa using hx) (by simpa using hy);rw [SN,iG,iG,iG,ih,Int.sub_mul];omega
def BD.sub:∀ {ms x y:List Int},InR ms x->InR ms y->BD ms (List.zipWith (λ a b=>a - b) x y)
 | [],[],[],_,_=>trivial
 | [],_::_,_,h,_=>h.elim
 | [],_,_::_,_,h=>h.elim
 | _::_,[],_,h,_=>h.elim
 | _::_,_,[],_,h=>h.elim
 | m::ms,a::x,b::y,hx,hy=>⟨by have:=hx.1;have:=hy.1;show ((a - b).natAbs:Int)<=m - 1;omega,BD.sub hx.2 hy.2⟩
def Gy{ms ps:List Int}(hl:ps.length=ms.length):(ms.zip ps).map (λ a=>a.2)=ps:=by
 rw [show (λ a:Int × Int=>a.2)=Prod.snd from rfl,List.map_snd_zip %[0|8]]
def uC{ms ps:List Int}(hl:ps.length=ms.length):(ms.zip ps).map (λ a=>a.1)=ms:=by
 rw [show (λ a:Int × Int=>a.1)=Prod.fst from rfl,UQ %[0|8]]
def Gu.nodup{ms ps:List Int}(h:Gu ms ps)(hs:∀ n∈ms,1<=n/\n<=1000000000)(hl:ps.length=ms.length)(f:Int):(af f (ms.zip ps)).Nodup:=by
 have one:∀ a∈ms.zip ps,(1:Int)<=a.1:=λ a ha=>(hs a.1 (of_mem_zip (show (a.1,a.2)∈ms.zip ps from ha)).1).1;have hlen:=aB f (ms.zip ps) one;rw [uC hl] at hlen;unfold List.Nodup;rw [List.pairwise_iff_getElem];intro i j hi hj aX e;have a:=jq one (getElem?_eq_getElem hi);have b:=jq one (getElem?_eq_getElem hj);rw [uC hl,Gy hl] at a b;rw [a,b] at e;have zi:InR ms (aj ms (i:Int)):=InR.split ms i hs;have zj:InR ms (aj ms (j:Int)):=InR.split ms j hs;have hd:=yO (x:=aj ms (i:Int)) (y:=aj ms (j:Int)) (ps:=ps) (by rw [bo,hl]) (by rw [bo,hl]);have aS:=h _ (BD.sub zi zj) %[0|8]
 have heq:aj ms (i:Int)=aj ms (j:Int):=by
  refine UG (by rw [bo,bo]) λ n h1 h2=>?_;have hn:n < ms.length:=by rw [bo] at h1;exact h1
  have:=aS n hn;rw [RU,List.getElem?_zipWith,Rb h1,Rb h2] at this;have:(aj ms (i:Int))[n] - (aj ms (j:Int))[n]=0:=this;omega
 have:=p8 (λ n hn=>(hs n hn).1) %[0|8] %[0|8] %[0|8] %[0|8] heq;omega
abbrev zr  (l:Addr) (r:Addr) (H:Hp) (Q:VK) (E:XK):Prop:=∃ ms ps:List Int,H l=%[ms|46]/\H r=%[ps|46]/\(∀ m∈ms,1<=m/\m<=4096)/\ms.length<=8/\ps.length=ms.length/\∀ H',Ext H H'->Q (.int (bw (ms.zip ps))) H'
def FK  : Sp:=λ vs H Q E=>∃ (l:Addr) (r:Addr),vs=[.ref l,.ref r]/\(zr  l r H Q E)
def yZ  (l:Addr) (r:Addr) (H:Hp) (Q:VK) (E:XK):FK  [.ref l,.ref r] H Q E=(zr  l r H Q E):=iu (f:=λ (l:Addr) (r:Addr)=>[.ref l,.ref r]) (λ _ _ _ _ h=>by cases h;exact⟨rfl,rfl⟩) l r
def oT(T:Tx K mg t):%[1,Bf|49] ["_law_sizes", "_law_paces"] FK:=by
 refine T.F_Bf.ok rH (λ _ _ _ _ h=>iw h λ _ _=>rfl) %[0|50]
 ·obtain⟨l,r,rfl,ms,ps,hm,hp,h6,h8,a5,k⟩:=h;refine⟨_,%[%[%[sum,(gh rfl),%[%[(["_law_size", "_law_pace", "_law_sizes", "_law_paces"]),(2),(aC (aa dY) ["_law_sizes", "_law_paces"] rfl rfl nofun),rfl,%[∅,T.z_zip,%[%[0|0],%[%[1|0]|1]|1],∅,∅|39],(λ _ _ _ _ _=>(%[(2),rfl,%[%[0,["_law_size", "_law_pace", "_law_sizes", "_law_paces"]|51],%[%[1,["_law_size", "_law_pace", "_law_sizes", "_law_paces"]|51],(@aK _),∅|16],∅|16],∅,∅|25].mono λ _ _ _ _ h=>bX h)),(λ _ _ _ _ _=>(@aG _)),(λ _ _ _ _ _=>%[min,(qC rfl),%[%[0|2],%[%[eM,%[1|0],%[eL,%[0|0],%[0|2]|13]|13]|1]|1]|6]),(by intros;rfl)|22]|1]|6]|11]|10],?_⟩;rw [show az ["_law_sizes", "_law_paces"] [.ref l,.ref r]=[%[l|45],%[r|45]] from rfl];exists h6;ac_rfl;refine aV ((ms.map V.int).zip (ps.map V.int)) (λ _=>true) (λ z=>.int (min 0 ((vi z.1 - 1) * vi z.2))) EX (jx (ka:=false) (kb:=false) hm hp).1 (jx (ka:=false) (kb:=false) hm hp).2 (ak (by rw [Tb,Rh,Rh];omega)) ?_ ?_
  ·intro D z y H' N1 N0 hz hD e ⟨u,hu,a6⟩ k1 _;subst hu;obtain⟨x0,n0⟩:=z;have aS:=Tg hz;obtain⟨a,ha,rfl⟩:=Rj.mp aS.1;obtain⟨b,a7,rfl⟩:=Rj.mp aS.2;have a3:N1 (.int (min 0 ((a - 1) * b))) H':=k1 rfl H' (Ext.refl _);have ca:=h6 () a ha;have a8:pI b (a - 1):=.inr ⟨by omega,by omega⟩;rw [Qb,SW] at a3;clear k1 aS hz k;simp! only [↓dB,↓aJ]
  ·intro D H' hD e aX
   have a9:H' D=some (.lst (((ms.zip ps).map λ a=>min 0 ((a.1 - 1) * a.2)).map V.int)):=by
    rw [aX,ix,List.zip_map,Se,Se];rfl
   have a4:((ms.zip ps).map λ a=>min 0 ((a.1 - 1) * a.2)).sum=bw (ms.zip ps):=rfl;have k2:=k H' e;clear k aX;ac_rfl
abbrev zq  (l:Addr) (r:Addr) (H:Hp) (Q:VK) (E:XK):Prop:=∃ ms ps:List Int,H l=%[ms|46]/\H r=%[ps|46]/\(∀ m∈ms,1<=m/\m<=4096)/\ms.length<=8/\ps.length=ms.length/\∀ H',Ext H H'->Q (.int (aY (ms.zip ps))) H'
def FJ  : Sp:=λ vs H Q E=>∃ (l:Addr) (r:Addr),vs=[.ref l,.ref r]/\(zq  l r H Q E)
def yY  (l:Addr) (r:Addr) (H:Hp) (Q:VK) (E:XK):FJ  [.ref l,.ref r] H Q E=(zq  l r H Q E):=iu (f:=λ (l:Addr) (r:Addr)=>[.ref l,.ref r]) (λ _ _ _ _ h=>by cases h;exact⟨rfl,rfl⟩) l r
def rn(T:Tx K mg t):%[1,DT|49] ["_law_sizes", "_law_paces"] FJ:=by
 refine T.F_DT.ok uf (λ _ _ _ _ h=>iw h λ _ _=>rfl) %[0|50]
 ·obtain⟨l,r,rfl,ms,ps,hm,hp,h6,h8,a5,k⟩:=h;refine⟨_,%[%[%[sum,(gh rfl),%[%[(["_law_size", "_law_pace", "_law_sizes", "_law_paces"]),(2),(aC (aa fk) ["_law_sizes", "_law_paces"] rfl rfl nofun),rfl,%[∅,T.z_zip,%[%[0|0],%[%[1|0]|1]|1],∅,∅|39],(λ _ _ _ _ _=>(%[(2),rfl,%[%[0,["_law_size", "_law_pace", "_law_sizes", "_law_paces"]|51],%[%[1,["_law_size", "_law_pace", "_law_sizes", "_law_paces"]|51],(@aK _),∅|16],∅|16],∅,∅|25].mono λ _ _ _ _ h=>bX h)),(λ _ _ _ _ _=>(@aG _)),(λ _ _ _ _ _=>%[max,(lh rfl),%[%[0|2],%[%[eM,%[1|0],%[eL,%[0|0],%[0|2]|13]|13]|1]|1]|6]),(by intros;rfl)|22]|1]|6]|11]|10],?_⟩;rw [show az ["_law_sizes", "_law_paces"] [.ref l,.ref r]=[%[l|45],%[r|45]] from rfl];exists h6;ac_rfl;refine aV ((ms.map V.int).zip (ps.map V.int)) (λ _=>true) (λ z=>.int (max 0 ((vi z.1 - 1) * vi z.2))) EX (jx (ka:=false) (kb:=false) hm hp).1 (jx (ka:=false) (kb:=false) hm hp).2 (ak (by rw [Tb,Rh,Rh];omega)) ?_ ?_
  ·intro D z y H' N1 N0 hz hD e ⟨u,hu,a6⟩ k1 _;subst hu;obtain⟨x0,n0⟩:=z;have aS:=Tg hz;obtain⟨a,ha,rfl⟩:=Rj.mp aS.1;obtain⟨b,a7,rfl⟩:=Rj.mp aS.2;have a3:N1 (.int (max 0 ((a - 1) * b))) H':=k1 rfl H' (Ext.refl _);have ca:=h6 () a ha;have a8:pI b (a - 1):=.inr ⟨by omega,by omega⟩;rw [Qc,SW] at a3;clear k1 aS hz k;simp! only [↓dB,↓aJ]
  ·intro D H' hD e aX
   have a9:H' D=some (.lst (((ms.zip ps).map λ a=>max 0 ((a.1 - 1) * a.2)).map V.int)):=by
    rw [aX,ix,List.zip_map,Se,Se];rfl
   have a4:((ms.zip ps).map λ a=>max 0 ((a.1 - 1) * a.2)).sum=aY (ms.zip ps):=rfl;have k2:=k H' e;clear k aX;ac_rfl
abbrev zw  (f:Int) (l:Addr) (q:Addr) (H:Hp) (Q:VK) (E:XK):Prop:=∃ ms ps:List Int,H l=%[ms|46]/\H q=%[ps|46]/\(∀ m∈ms,1<=m/\m<=4096)/\ms.length<=8/\ps.length=ms.length/\ae ms<=4096/\∀ (r:Addr) (H':Hp),Ext H H'->H' r=some (.lst ((af f (ms.zip ps)).map V.int))->Q (.ref r) H'
def FO  : Sp:=λ vs H Q E=>∃ (f:Int) (l:Addr) (q:Addr),vs=[.int f,.ref l,.ref q]/\(zw  f l q H Q E)
def zc  (f:Int) (l:Addr) (q:Addr) (H:Hp) (Q:VK) (E:XK):FO  [.int f,.ref l,.ref q] H Q E=(zw  f l q H Q E):=xf (f:=λ (f:Int) (l:Addr) (q:Addr)=>[.int f,.ref l,.ref q]) (λ _ _ _ _ _ _ h=>by cases h;exact⟨rfl,rfl,rfl⟩) f l q
def oV(T:Tx K mg t):%[1,DI|49] ["_law_first", "_law_sizes", "_law_paces"] FO:=by
 refine T.F_DI.ok bN (λ _ _ _ _ h=>xg h λ _ _ _=>rfl) %[0|50]
 ·obtain⟨first,l,q,rfl,ms,ps,hm,hp,h6,h8,cS,cT,k⟩:=h;refine⟨_,%[%[3,bN,%[%[%[0|0]|1]|18]|4],%[%[RA,rfl,%[∅,T.z_zip,%[%[1|0],%[%[2|0]|1]|1],∅,∅|39],(%[(2),rfl,%[%[4,bN|5],%[%[(5),_,bN.nd,rfl,(Or.inr rfl),%[0|7]|14],(@aK _),∅|16],∅|16],∅,∅|25].mono λ _ _ _ _ h=>bX h),%[%[6,bN,%[(@cU _)|18]|4],%[%[RA,rfl,%[%[3|0]|19],%[(7),_,bN.nd,rfl,(Or.inr rfl),%[0|7]|14],%[%[%[RS,TK,TJ,iK,%[6|0],%[%[(["_law_k", "_law_first", "_law_sizes", "_law_paces", "_law_found", "_law_size", "_law_pace", "_law_longer", "_law_cell"]),(1),(aC (aa dZ) ["_law_first", "_law_sizes", "_law_paces", "_law_found", "_law_size", "_law_pace", "_law_longer", "_law_cell"] rfl rfl nofun),rfl,%[∅,T.z_range,%[%[4|0]|1],∅|32],(λ _ _ _ _ _=>%[0,["_law_k", "_law_first", "_law_sizes", "_law_paces", "_law_found", "_law_size", "_law_pace", "_law_longer", "_law_cell"]|51]),(λ _ _ _ _ _=>(@aG _)),(λ _ _ _ _ _=>%[cv,%[8|0],%[eM,%[6|0],%[0|0]|13]|13]),(by intros;rfl)|22]|1],∅,∅,∅,∅,∅|37],∅|20]|10],(by intros;rfl)|21],%[%[3,bN,%[6|0]|4]|10]|9]|9],(by intros;rfl)|21],%[%[%[3|0]|11]|10]|9]|9],?_⟩;rw [show az ["_law_first", "_law_sizes", "_law_paces", "_law_found", "_law_size", "_law_pace", "_law_longer", "_law_cell"] [.int first,.ref l,.ref q]=[%[first|47],%[l|45],%[q|45],none,none,none,none,none] from rfl]
  have aX:(ms.zip ps).map (λ a=>a.1)=ms:=by
   rw [show (λ a:Int × Int=>a.1)=Prod.fst from rfl,UQ %[0|8]]
  have a3:∀ a∈ms.zip ps,(1:Int)<=a.1:=λ a ha=>(h6 a.1 (Tg (show (a.1,a.2)∈ms.zip ps from ha)).1).1;exists a3;exists aX;exists h6;exists k;ac_rfl;intro r H1 bS e1 h1;have b1:=e1.at hm;have b2:=e1.at hp;ac_rfl;refine ko (ka:=false) (kb:=false) (xs:=ms.map V.int) (ys:=ps.map V.int) (λ i σ H'=>∃ (r:Addr) (v4 v5 v6 v7:Option V),σ=[%[first|47],%[l|45],%[q|45],%[r|45],v4,v5,v6,v7]/\Ext H H'/\H' r=some (.lst ((af first ((ms.zip ps).take i)).map V.int))) ⟨r,none,none,none,none,rfl,e1,h1⟩ (λ i σ H' ⟨_,_,_,_,_,_,e,_⟩=>⟨e.at hm,e.at hp⟩) ?_ ?_
  ·rintro i x y w' _ H2 H3 hx hy ⟨r,v4,v5,v6,v7,rfl,e2,h2⟩ hw e3 h3;rw [Rq] at hx hy;obtain⟨a,ha,rfl⟩:=Rm.mp hx;obtain⟨b,hb,rfl⟩:=Rm.mp hy;have a4:(ms.zip ps)[i]? = some (a,b):=by rw [Sa];exact⟨ha,hb⟩
   have c0:=h6 () a (Rx ha)
   have hlen:(af first ((ms.zip ps).take i)).length * a.toNat<=4096:=by
    have a5:=aB first ((ms.zip ps).take i) λ b hb=>a3 () b (Sk hb)
    have a6:=fJ ms (λ n hn=>(h6 () n hn).1) (i+1);rw [jk _ i a ha] at a6;rw [Vm,aX ()] at a5;rw [←a5] at a6;have b3:((a.toNat:Nat):Int)=a:=Sb %[0|8]
    have:(((af first ((ms.zip ps).take i)).length * a.toNat:Nat):Int)<=4096:=by rw [Uu,b3];omega
    omega
   have a7:af first ((ms.zip ps).take (i+1))=bG (af first ((ms.zip ps).take i)) (a,b):=by
    rw [R7,a4]
    show af first ((ms.zip ps).take i++[(a,b)])=_
    rw [lH]
   rw [a7];have aS:=e3.at h2;have a8:=e2.trans e3
   generalize af first ((ms.zip ps).take i)=cs at hlen aS h2
   exists hlen;clear a7 hx hy ha hb a4 hw h2 e2 e3 h1 bS b1 b2 e1;simp! only [↓aD];intro g H4 a9 e4 h4;have bb:=e4.at aS;have b4:H g=none:=a8.free a9;ac_rfl;refine cw (xs:=cs.map V.int) (λ j σ H'=>∃ v7:Option V,σ=[%[first|47],%[l|45],%[q|45],%[r|45],%[a|47],%[b|47],%[g|45],v7]/\Ext H H'/\Ext H3 H'/\H' g=some (.lst ((bG (cs.take j) (a,b)).map V.int))) ⟨_,rfl,a8.trans e4,e4,h4⟩ (λ j σ H' _ ⟨_,_,_,e,_⟩=>e.at aS) ?_ ?_
   ·rintro j x _ H5 hj ⟨b5,rfl,e5,bt,h5⟩;rw [Rq] at hj;obtain⟨c,hc,rfl⟩:=Rm.mp hj;have c1:j < cs.length:=(Rf.mp hc).1
    have cb:(bG (cs.take j) (a,b)).length+a.toNat<=4096:=by
     rw [ku,R0]
     show min j cs.length * a.toNat+a.toNat<=4096
     have:(min j cs.length+1) * a.toNat<=cs.length * a.toNat:=Uk _ %[0|8];rw [Nat.add_mul,Nat.one_mul] at this;have:=hlen ();omega
    rw [mH cs (a,b) j c hc];generalize bG (cs.take j) (a,b)=ws at h5 cb;clear hj hc bb h4 e4 k;simp! only [↓aD];refine⟨by omega,by omega,?_⟩;refine aV (List.range a.toNat) (λ _=>true) (λ m=>.int (c+(m:Int) * b)) (λ j x H'=>x=.int (0+(j:Nat))) di.1 di.2 (ak (by rw [RL];omega)) ?_ ?_
    ·intro D m x H' N1 N0 bx hD e hx k1 _;subst hx;have c2:=RO.mp bx
     have c3:N1 (.int (c+b * (0+(m:Int)))) H':=by
      rw [RZ,SW b];exact k1 rfl H' (Ext.refl _)
     have c4:pI b (0+(m:Int)):=.inr ⟨by omega,by omega⟩;clear k1 bx;simp! only [↓aL,↓aJ]
    ·intro D H6 hD e6 cf;rw [ix] at cf;have cF:=e6.at h5;have c5:ws.length+(List.range a.toNat).length<=sizeLine:=ak (by rw [RL];omega);clear h5;ac_rfl;refine⟨_,rfl,(e5.trans e6).put b4,(bt.trans e6).put a9,?_⟩;rw [SI,Se];rfl
   ·rintro _ H5 ⟨b5,rfl,e5,bt,h5⟩;rw [Rh,R6] at h5;ac_rfl;exact⟨g,_,_,_,_,rfl,e5,h5⟩
  ·rintro _ H3 ⟨r3,v4,v5,v6,v7,rfl,e3,h3⟩;have cm:min (ms.map V.int).length (ps.map V.int).length=(ms.zip ps).length:=by rw [Rh,Rh,Tb]
   rw [cm,R6] at h3;ac_rfl;exact k () r3 H3 e3 h3
def zD(cs:List Int)(a:Int × Int)(h:1<=a.1):bG cs (aN a)=bG cs a:=by
 unfold bG
 show (cs.flatMap λ c=>(List.range a.1.toNat).map λ (n:Nat)=>c+(n:Int) * (if a.1 > 1 then a.2 else 0))=_
 by_cases h1:a.1 > 1
 ·rw [RP h1]
 ·rw [RH h1];have e:a.1.toNat=1:=by omega
  rw [e];refine SA (λ f=>cs.flatMap f) (funext λ c=>?_);simp
def qw:∀ (axs:%[0|48]) (cs:List Int),(∀ a∈axs,(1:Int)<=a.1)->(axs.map aN).foldl bG cs=axs.foldl bG cs
 | [],cs,_=>rfl
 | a::r,cs,h=>by
  rw [Sh,Tj,Tj,zD cs a (h a Rr),qw r _ λ b hb=>h b (Ro _ hb)]
def eW(f:Int)(axs:%[0|48])(h:∀ a∈axs,(1:Int)<=a.1):af f (axs.map aN)=af f axs:=qw axs [f] h
def cj(axs:%[0|48]):(axs.map aN).map (λ a=>a.1)=axs.map λ a=>a.1:=by rw [Se];rfl
def dE{axs:%[0|48]}(h:fM axs):fM (axs.map aN):=⟨by rw [Rh];exact h.1,λ a ha=>by
 obtain⟨b,hb,rfl⟩:=Rj.mp ha;exact h.2 b hb⟩
def kz:∀ l:%[0|48],(∀ a∈l,(1:Int)<=a.1)->bw (l.map aN)=bw l/\aY (l.map aN)=aY l
 | [],_=>⟨rfl,rfl⟩
 | a::r,h=>by
  obtain⟨i1,i2⟩:=kz r λ b hb=>h b (Ro _ hb);have ha:=h a Rr
  have e:((aN a).1 - 1) * (aN a).2=(a.1 - 1) * a.2:=by
   show (a.1 - 1) * (if a.1 > 1 then a.2 else 0)=_
   split
   ·rfl
   ·have:a.1=1:=by omega
    rw [this];simp
  rw [Sh,dI,dJ,dI,dJ,e,i1,i2];exact⟨rfl,rfl⟩
def Cf(ms ws:List Int):(ms.map V.int).zip (ws.map V.int)=(ms.zip ws).map λ z=>(V.int z.1,V.int z.2):=by
 rw [List.zip_map];rfl
def yi{H:Hp}{ms ws:List Int}{ts:List V}(al:Al (λ z y=>EX z y H) ((ms.map V.int).zip (ws.map V.int)) ts):Al (bE H) (axL (ms.zip ws)) ts:=by
 rw [Cf] at al;refine⟨by rw [al.1];unfold axL;rw [length_map,length_map],λ i z y hz hy=>?_⟩;unfold axL at hz;rw [getElem?_map] at hz;obtain⟨x,hx,rfl⟩:=Option.map_eq_some_iff.mp hz;obtain⟨p,hp,hq⟩:=al.2 i (V.int x.1,V.int x.2) y (by rw [getElem?_map,hx];rfl) hy;exact⟨p,hp,hq⟩
structure JS(ms:List Int)(room f:Int)(ps:List Int):Prop where
 len:ps.length=ms.length
 lo:0<=f+bw (ms.zip ps)
 hi:f+aY (ms.zip ps) < room
def nP{ms ps:List Int}(h:SzK ms)(hl:ps.length=ms.length):fM (ms.zip ps):=⟨by rw [Tb];have:=h.pos.2.1;omega,λ a ha=>by
 have:=h.pos.1 a.1 (Tg (show (a.1,a.2)∈ms.zip ps from ha)).1;omega⟩
def yk{ms ps:List Int}(hl:ps.length=ms.length):(ms.zip ps).map (λ a=>a.1)=ms:=by
 rw [show (λ a:Int × Int=>a.1)=Prod.fst from rfl,UQ %[0|8]]
def JS.view{ms ps:List Int}{room f:Int}(h:JS ms room f ps)(hs:SzK ms)(r1:1<=room)(r2:room<=1000000000000000000):uB room f (ms.zip ps):=by
 have aS:=nP hs h.len;obtain⟨g1,g2⟩:=kz (ms.zip ps) λ a ha=>(aS.2 a ha).1;have:=h.lo;have:=h.hi;exact⟨aS,r1,by omega,by rw [g1];omega,by rw [g2];omega⟩
def EG(xs:List V)(z:Int)(h:0<=z):mx xs (some z) none=xs.drop z.toNat:=by
 unfold mx;obtain⟨n,rfl⟩:=Int.eq_ofNat_of_zero_le h;rw [HT.sIx_none,HT.sIx_nat]
 show _=xs.drop n
 rcases Vy n xs.length with q|q
 ·rw [UU q];exact SO (by rw [Ui];omega)
 ·rw [UO q,Te (Rl _),Te q,List.take_nil]
def uA(xs:List V)(z:Int)(h:0<=z):mx xs none (some z)=xs.take z.toNat:=by
 unfold mx;obtain⟨n,rfl⟩:=Int.eq_ofNat_of_zero_le h;rw [HT.sIx_none,HT.sIx_nat,drop_zero,Nat.sub_zero]
 show xs.take (min n xs.length)=xs.take n
 rcases Vy n xs.length with q|q
 ·rw [UU q]
 ·rw [UO q,R6,SO q]
def GK{l b:Addr}{xs ys:List V}{H:Hp}{Q:VK}(h:H l=some (.lst xs))(h':H b=some (.lst ys))(hl:xs.length+ys.length<=sizeLine)(q:iW (.lst (xs++ys)) H Q):JZ Nl (.ref l) Q (.ref b) H:=by
 rw [Fp,Fo,aA,h]
 show aH (aA H b) (Nr xs H Q)
 rw [aA,h'];exact⟨hl,q⟩
def Dh{ws:List Int}{i j:Nat}{c:Int}(h:ws.Nodup)(aS:i < j)(h1:ws[i]? = some c)(h2:ws[j]? = some c):False:=by
 obtain⟨a,ha⟩:=Rf.mp h1;obtain⟨b,hb⟩:=Rf.mp h2;have:=(Uj h).mp (ha.trans hb.symm);omega
abbrev qO(C:Addr)(v:Addr)(H:Hp)(Q:VK)(E:XK):Prop:=∃ (room first:Int) (axs:%[0|48]),aE C H v room first axs/\fM axs/\ae (axs.map λ a=>a.1)<=4096/\((af first axs).Nodup->∀ H',Ext H H'->Q .non H')/\(∀ (i j:Nat) (c:Int) (r p q:Addr) (H':Hp),i < j->(af first axs)[i]? = some c->(af first axs)[j]? = some c->Ext H H'->H' r=some (.tup [.ref p,.ref q])->H' p=some (.tup ((aj (axs.map λ a=>a.1) (i:Int)).map V.int))->H' q=some (.tup ((aj (axs.map λ a=>a.1) (j:Int)).map V.int))->Q (.ref r) H')
def sm(C:Addr):Sp:=λ vs H Q E=>∃ (v:Addr),vs=[.ref v]/\(qO C v H Q E)
def BA(C:Addr)(v:Addr)(H:Hp)(Q:VK)(E:XK):sm C [.ref v] H Q E=(qO C v H Q E):=lZ (f:=λ (v:Addr)=>[.ref v]) (λ _ _ h=>by cases h;exact rfl) v
def rk(T:Tx K mg t):%[5,DP|49] ["view"] (sm t.a_V3):=by
 have G_Bb:=%[cy|44];have G_A8:=%[aZ|44];have G_D9:=%[tF|44];refine T.F_DP.ok fA (λ _ _ _ _ h=>lX h λ _=>rfl) %[0|50]
 ·obtain⟨v,rfl,room,first,axs,vo,aX,hc,kN,kT⟩:=h;exists kN;exists kT;obtain⟨dx,l,hv,_⟩:=vo.ob;have a8:=hv;have c1:=T.cl_View
  have f3:=vn room first l (m := "cells") nofun
  have f4:=vn room first l (m := "sizes") nofun
  refine⟨_,%[%[1,fA,(@iE _ _)|4],%[%[RA,rfl,(@Hj _ _ _ _ _ _ _ _ ∅ T.z_enumerate %[%[%[0|0],T.cl_View,T.mt_View_cells,G_Bb,(hr.mono ⋯),T.b_Bb,.nil,aW,∅|23]|1] ∅),(%[(2),rfl,%[%[2,fA|5],%[%[3,fA|5],(@aK _),∅|16],∅|16],∅,∅|25].mono λ _ _ _ _ h=>bX h),%[%[%[(Fi (fN hr.units)),%[3|0],%[1|0],(by with_unfolding_all rfl)|15],%[%[%[%[%[D9,%[%[%[0|0],T.cl_View,T.mt_View_sizes,G_A8,(hr.mono ⋯),T.b_A8,.nil,aW,∅|23],%[(@yB _ _ _ _ _ _ (fN hr.units) %[1|0] %[3|0] (λ _ _=>rfl))|1]|1]|3],%[%[D9,%[%[%[0|0],T.cl_View,T.mt_View_sizes,G_A8,(hr.mono ⋯),T.b_A8,.nil,aW,∅|23],%[%[2|0]|1]|1]|3]|1]|1]|29]|11]|10],(@au _)|17],%[(@kj _ _ _ _ _ _ _ _ _ (fN hr.units) %[1|0] %[3|0] %[2|0] rfl)|10]|9],(by intros;rfl)|21],%[%[(@mz _ _ _)|11]|10]|9]|9],?_⟩;rw [show az ["view", "seen", "number", "cell"] [.ref v]=[%[v|45],none,none,none] from rfl];clear G_Bb G_A8 G_D9;ac_rfl;intro d H1 b1 e1 h1;have a9:=e1.at hv;ac_rfl;rw [eT];refine⟨room,first,axs,vo.ext e1,aX,λ _ r2 H2 c0 e2 h2=>?_,by omega⟩
  have b2:((af first axs).length:Int)=ae (axs.map λ a=>a.1):=aB first axs λ b hb=>(aX.2 b hb).1
  generalize af first axs=cs at h2 kN kT b2
  have bb:=e2.at h1;have c2:=e2.at a9;ac_rfl;have hsz:=aX.sizes;have c3:cs.length<=4096:=by omega
  have b3:=e1.trans e2;clear h1 a9 hv;refine Ez (λ i σ H'=>∃ (kvs:List (Key × V)) (v2 v3:Option V),σ=[%[v|45],%[d|45],v2,v3]/\Ext H H'/\H' r2=%[cs|46]/\H' d=some (.dK kvs)/\kvs.length<=i/\(cs.take i).Nodup/\(∀ c,eK kvs (.inl c)=none->c ∉ cs.take i)/\∀ c x,eK kvs (.inl c)=some x->∃ k:Nat,k < i/\x=.int (k:Int)/\cs[k]? = some c) ⟨[],none,none,rfl,b3,h2,bb,Rl _,TM,λ c _=>Rv,λ c x h=>by cases h⟩ (λ i σ H' ⟨_,_,_,_,_,h,_⟩=>h) ?_ ?_
  ·rintro i u p _ H3 H4 hi ⟨kvs,v2,v3,rfl,e3,h3,bt,b4,a3,hB,hC⟩ c4 e4 h4;rw [Rq] at hi;obtain⟨c,a4,rfl⟩:=Rm.mp hi;have c5:i < cs.length:=(Rf.mp a4).1;have a5:=e4.at bt;have a6:=e4.at h3;have a7:=e3.trans e4;have bx:=a7.at a8;clear hi;simp! only [↓aD];refine E5 (k:=.inl c) a5 ?_
   cases hvv:eK kvs (.inl c) with
   | some x=>
    obtain⟨k,b5,rfl,cb⟩:=hC c x hvv;have cT:k < cs.length:=by omega
    clear kN hB hC a3;ac_rfl;rw [bA];refine⟨room,first,axs,vo.ext a7,aX.1,λ r5 H5 c6 e5 h5=>?_⟩;have cf:=e5.at a5;have bS:=e5.at bx;clear a5 bx;ac_rfl;refine E6 (k:=.inl c) cf hvv ?_;ac_rfl;rw [lI];refine⟨_,h5,hsz,by omega,by omega,?_⟩;rw [uk];intro r6 H6 c7 e6 h6;have c8:=e6.at bS;clear bS;ac_rfl;rw [bA];refine⟨room,first,axs,vo.ext (a7.trans (e5.trans e6)),aX.1,λ r7 H7 de e7 h7=>?_⟩;ac_rfl;rw [lI];refine⟨_,h7,hsz,by omega,by omega,?_⟩;rw [uk];intro r8 H8 dy e8 h8;ac_rfl;intro r9 H9 dz e9 h9;exact kT () k i c r9 r6 r8 H9 b5 cb a4 (a7.trans (e5.trans (e6.trans (e7.trans (e8.trans e9))))) h9 ((e7.trans (e8.trans e9)).at h6) (e9.at h8)
   | none=>
    have cm:kvs.length < sizeLine:=iB %[0|8];have cF:r2 ≠ d:=λ z=>by rw [z,a5] at a6;cases a6
    clear kN kT;ac_rfl;refine pL (k:=.inl c) a5 cm ?_;refine⟨_,_,_,rfl,a7.put b1,by rw [ah cF];exact a6,aq,?_,?_,λ c' aS hm=>?_,λ c' x aS=>?_⟩
    ·rw [uM _ hvv,RI];simp;omega
    ·rw [R7,a4];exact Sm.mpr ⟨a3,by simp,λ a ha b hb=>by rw [Vk,Rg] at hb;subst hb;exact λ e=>hB _ hvv (e ▸ ha)⟩
    ·rw [gC] at aS;split at aS
     ·cases aS
     ·rename_i cS;rw [R7,a4] at hm
      rcases RQ.mp hm with hm|hm
      ·exact hB c' aS hm
      ·rw [Vk,Rg] at hm;exact cS (by rw [hm])
    ·rw [gC] at aS;split at aS
     ·rename_i he;cases aS;cases he;exact⟨i,Ss _,rfl,a4⟩
     ·obtain⟨k,k1,k2,k3⟩:=hC c' x aS;exact⟨k,by omega,k2,k3⟩
  ·rintro _ H3 ⟨kvs,v2,v3,rfl,e3,h3,bt,b4,a3,hB,hC⟩;rw [Rh,R6] at a3;have k':=kN () a3 H3 e3;clear kN kT;ac_rfl
abbrev qQ(C:Addr)(u:Addr)(v:Addr)(H:Hp)(Q:VK)(E:XK):Prop:=∃ (room f1 f2:Int) (A B:%[0|48]),aE C H u room f1 A/\aE C H v room f2 B/\Q .non H
def sv(C:Addr):Sp:=λ vs H Q E=>∃ (u:Addr) (v:Addr),vs=[.ref u,.ref v]/\(qQ C u v H Q E)
def qG(C:Addr)(u:Addr)(v:Addr)(H:Hp)(Q:VK)(E:XK):sv C [.ref u,.ref v] H Q E=(qQ C u v H Q E):=iu (f:=λ (u:Addr) (v:Addr)=>[.ref u,.ref v]) (λ _ _ _ _ h=>by cases h;exact⟨rfl,rfl⟩) u v
def gx(T:Tx K mg t):%[1,wJ|49] ["one", "other"] (sv t.a_V3):=by
 refine T.F_wJ.ok mm (λ _ _ _ _ h=>iw h λ _ _=>rfl) %[0|50]
 ·obtain⟨u,v,rfl,room,f1,f2,A,B,vu,vv,k⟩:=h;obtain⟨dx,D,hu,_⟩:=vu.ob;obtain⟨dy,D2,hv,_⟩:=vv.ob;have c1:=T.cl_View;have c4:=T.na_View_room;have g1:=eU room f1 D;have g2:=eU room f2 D2;refine⟨_,%[%[%[(dk hr.units),%[%[0|0],rfl|27],%[%[1|0],rfl|27],(ar _)|15],%[(@b7 _ _)|10],(@au _)|17]|10],?_⟩;rw [show az ["one", "other"] [.ref u,.ref v]=[%[u|45],%[v|45]] from rfl];ac_rfl
abbrev ng(C:Addr)(u:Addr)(v:Addr)(H:Hp)(Q:VK)(E:XK):Prop:=∃ (r1 r2 f1 f2:Int) (A B:%[0|48]),aE C H u r1 f1 A/\aE C H v r2 f2 B/\A.length<=8/\(A.map λ a=>a.1)=(B.map λ a=>a.1)/\∀ H',Ext H H'->Q .non H'
def nZ(C:Addr):Sp:=λ vs H Q E=>∃ (u:Addr) (v:Addr),vs=[.ref u,.ref v]/\(ng C u v H Q E)
def js(C:Addr)(u:Addr)(v:Addr)(H:Hp)(Q:VK)(E:XK):nZ C [.ref u,.ref v] H Q E=(ng C u v H Q E):=iu (f:=λ (u:Addr) (v:Addr)=>[.ref u,.ref v]) (λ _ _ _ _ h=>by cases h;exact⟨rfl,rfl⟩) u v
def bC(T:Tx K mg t):%[2,rD|49] ["to", "source"] (nZ t.a_V3):=by
 have G_A8:=%[aZ|44];refine T.F_rD.ok gA (λ _ _ _ _ h=>iw h λ _ _=>rfl) %[0|50]
 ·obtain⟨u,v,rfl,r1,r2,f1,f2,A,B,vu,vv,h8,hs,k⟩:=h;obtain⟨dx,D,hu,_⟩:=vu.ob;obtain⟨dy,D2,hv,_⟩:=vv.ob;have c1:=T.cl_View;have g1:=vn r1 f1 D (m := "sizes") nofun;have g2:=vn r2 f2 D2 (m := "sizes") nofun;refine⟨_,%[%[%[(dk hr.units),%[%[0|0],T.cl_View,T.mt_View_sizes,G_A8,(hr.mono ⋯),T.b_A8,.nil,aW,∅|23],%[%[1|0],T.cl_View,T.mt_View_sizes,G_A8,(hr.mono ⋯),T.b_A8,.nil,aW,∅|23],(ar _)|15],%[(@b7 _ _)|10],(@au _)|17]|10],?_⟩;rw [show az ["to", "source"] [.ref u,.ref v]=[%[u|45],%[v|45]] from rfl];clear G_A8;have hl:B.length<=8:=by have:=SA List.length hs;rw [Rh,Rh] at this;omega
  exists k;exists hs;ac_rfl;rw [bA];refine⟨r1,f1,A,vu,h8,λ q1 H1 aS e1 h1=>?_⟩;have a4:=e1.at hv;clear aS;ac_rfl;rw [bA];refine⟨r2,f2,B,vv.ext e1,hl,λ q2 H2 aX e2 h2=>?_⟩;have a3:=e2.at h1;rw [←hs ()] at h2;have k':=k () H2 (e1.trans e2);clear k aX h1;ac_rfl
abbrev qR(C:Addr)(v:Addr)(H:Hp)(Q:VK)(E:XK):Prop:=∃ (room first:Int) (axs:%[0|48]),aE C H v room first axs/\fM axs/\ae (axs.map λ a=>a.1)<=4096/\(af first axs).Nodup/\∀ H',Ext H H'->Q .non H'
def sx(C:Addr):Sp:=λ vs H Q E=>∃ (v:Addr),vs=[.ref v]/\(qR C v H Q E)
def BB(C:Addr)(v:Addr)(H:Hp)(Q:VK)(E:XK):sx C [.ref v] H Q E=(qR C v H Q E):=lZ (f:=λ (v:Addr)=>[.ref v]) (λ _ _ h=>by cases h;exact rfl) v
def lP(T:Tx K mg t):%[6,AW|49] ["view"] (sx t.a_V3):=by
 have G_DP:=%[rk|44];refine T.F_AW.ok gS (λ _ _ _ _ h=>lX h λ _=>rfl) %[0|50]
 ·obtain⟨v,rfl,room,first,axs,vo,aX,hc,aS,kN⟩:=h;refine⟨_,%[%[1,gS,%[DP,%[%[0|0]|1]|3]|4],%[%[%[ow,%[1|0],(@mz _ _ _),(ar _)|15],%[(@b7 _ _)|10],(@au _)|17]|10]|9],?_⟩;rw [show az ["view", "found"] [.ref v]=[%[v|45],none] from rfl];clear G_DP;exists kN;ac_rfl;rw [BA];refine⟨room,first,axs,vo,aX,hc,λ _ H1 e1=>?_,λ i j c r p q H1 a3 hi hj e1 a4 a5 a6=>(Dh aS a3 hi hj).elim⟩;have k':=kN () H1 e1;clear kN aS;ac_rfl
def uN{κ:Type}[DecidableEq κ](kvs:List (κ × V))(k:κ)(v:V):(l0 kvs k v).length<=kvs.length+1:=by
 unfold l0;split
 ·rw [Rh];omega
 ·rw [RI];simp
structure vE(ws rs:List Int)(ys:List V)(i:Nat)(kvs:List (Key × V)):Prop where
 len:kvs.length<=i
 get:∀ c x,eK kvs (.inl c)=some x->∃ n,n < i/\ws[n]? = some c/\rs[n]? ≠ some c/\ys[n]? = some x
 has:∀ n c,n < i->ws[n]? = some c->rs[n]? ≠ some c->eK kvs (.inl c) ≠ none
def vE.nil{ws rs:List Int}{ys:List V}:vE ws rs ys 0 []:=⟨Rl _,(λ c x h=>by cases h),λ n c h=>absurd h (TR _)⟩
def vE.skip{ws rs:List Int}{ys:List V}{i:Nat}{kvs:List (Key × V)}{c:Int}(h:vE ws rs ys i kvs)(hw:ws[i]? = some c)(hr:rs[i]? = some c):vE ws rs ys (i+1) kvs:=by
 refine⟨by have:=h.len;omega,λ c x hc=>?_,λ n c' hn h1 h2=>?_⟩
 ·obtain⟨n,a,b⟩:=h.get c x hc;exact⟨n,by omega,b⟩
 ·by_cases hni:n=i
  ·subst hni;rw [hw] at h1;cases h1;exact absurd hr h2
  ·exact h.has n c' %[0|8] h1 h2
def vE.put{ws rs:List Int}{ys:List V}{i:Nat}{kvs:List (Key × V)}{c d:Int}{u:V}(h:vE ws rs ys i kvs)(hw:ws[i]? = some c)(hr:rs[i]? = some d)(aS:¬ c=d)(hu:ys[i]? = some u):vE ws rs ys (i+1) (l0 kvs (.inl c) u):=by
 refine⟨by have:=h.len;have:=uN kvs (.inl c) u;omega,λ c' x hc=>?_,λ n c' hn h1 h2=>?_⟩
 ·rw [gC] at hc;split at hc
  ·rename_i he;cases hc;cases he;exact⟨i,Ss _,hw,λ e=>aS (by rw [hr] at e;exact(RE e).symm),hu⟩
  ·obtain⟨n,a,b⟩:=h.get c' x hc;exact⟨n,by omega,b⟩
 ·rw [gC];split
  ·exact Uq _
  ·rename_i aX
   by_cases hni:n=i
   ·subst hni;rw [hw] at h1;cases h1;exact absurd rfl aX
   ·exact h.has n c' %[0|8] h1 h2
abbrev vC(C:Addr)(u:Addr)(v:Addr)(l:Addr)(H:Hp)(Q:VK)(E:XK):Prop:=∃ (room f1 f2:Int) (A B:%[0|48]) (ys:List V),aE C H u room f1 A/\aE C H v room f2 B/\fM A/\fM B/\(A.map λ a=>a.1)=(B.map λ a=>a.1)/\ae (A.map λ a=>a.1)<=4096/\H l=some (.lst ys)/\(ys.length:Int)=ae (A.map λ a=>a.1)/\∀ (d:Addr) (kvs:List (Key × V)) (H':Hp),Ext H H'->H d=none->H' d=some (.dK kvs)->vE (af f1 A) (af f2 B) ys ys.length kvs->Q (.ref d) H'
def xV(C:Addr):Sp:=λ vs H Q E=>∃ (u:Addr) (v:Addr) (l:Addr),vs=[.ref u,.ref v,.ref l]/\(vC C u v l H Q E)
def EV(C:Addr)(u:Addr)(v:Addr)(l:Addr)(H:Hp)(Q:VK)(E:XK):xV C [.ref u,.ref v,.ref l] H Q E=(vC C u v l H Q E):=xf (f:=λ (u:Addr) (v:Addr) (l:Addr)=>[.ref u,.ref v,.ref l]) (λ _ _ _ _ _ _ h=>by cases h;exact⟨rfl,rfl,rfl⟩) u v l
def fU(T:Tx K mg t):%[5,tT|49] ["to", "source", "spots"] (xV t.a_V3):=by
 have G_Bb:=%[cy|44];refine T.F_tT.ok aM (λ _ _ _ _ h=>xg h λ _ _ _=>rfl) %[0|50]
 ·obtain⟨u,v,l,rfl,room,f1,f2,A,B,ys,vu,vv,hA,hB,hs,hc,hl,c0,k⟩:=h;obtain⟨dx,D,hu,_⟩:=vu.ob;obtain⟨dy,D2,hv,_⟩:=vv.ob;have c1:=T.cl_View;have g1:=vn room f1 D (m := "cells") nofun;have g2:=vn room f2 D2 (m := "cells") nofun;refine⟨_,%[%[3,aM,(@iE _ _)|4],%[%[RA,rfl,(@Hi _ _ _ _ _ _ _ _ _ _ ∅ T.z_zip %[%[2|0],%[%[%[0|0],T.cl_View,T.mt_View_cells,G_Bb,(hr.mono ⋯),T.b_Bb,.nil,aW,∅|23],%[%[%[1|0],T.cl_View,T.mt_View_cells,G_Bb,(hr.mono ⋯),T.b_Bb,.nil,aW,∅|23]|1]|1]|1] ∅ ∅),(%[(3),rfl,%[%[4,aM|5],%[%[5,aM|5],%[%[6,aM|5],(@aK _),∅|16],∅|16],∅|16],∅,∅|25].mono λ _ _ _ _ h=>bX h),%[%[%[(dk hr.units),%[5|0],%[6|0],(ar _)|15],%[(@kj _ _ _ _ _ _ _ _ _ (fN hr.units) %[3|0] %[5|0] %[4|0] rfl)|10],(@au _)|17]|10],(by intros;rfl)|21],%[%[%[3|0]|11]|10]|9]|9],?_⟩;rw [show az ["to", "source", "spots", "found", "place", "cell", "origin"] [.ref u,.ref v,.ref l]=[%[u|45],%[v|45],%[l|45],none,none,none,none] from rfl];clear G_Bb;exists k;have l1:=aB f1 A λ b hb=>(hA.2 b hb).1;have l2:=aB f2 B λ b hb=>(hB.2 b hb).1;rw [←hs] at l2;ac_rfl;intro d H1 hd e1 h1;have b5:=e1.at hu;have bx:=e1.at hl;ac_rfl;rw [eT];refine⟨room,f1,A,vu.ext e1,hA,λ _ r2 H2 cb e2 h2=>?_,by omega⟩;have cf:=(e1.trans e2).at hv;have bS:=e2.at bx;have bb:=e2.at h1;clear cb b5 bx h1;ac_rfl;rw [eT];refine⟨room,f2,B,vv.ext (e1.trans e2),hB,λ _ r3 H3 cm e3 h3=>?_,by rw [←hs];omega⟩;have b1:=e3.at h2;have cF:=e3.at bS;have b2:=e3.at bb;have cS:=e1.trans (e2.trans e3);generalize af f1 A=ws at *;generalize af f2 B=rs at *;clear cm cf bS bb h2 hu hv;ac_rfl;refine Ex (xs:=ys) (ys:=ws.map V.int) (us:=rs.map V.int) (λ i σ H'=>∃ (kvs:List (Key × V)) (v4 v5 v6:Option V),σ=[%[u|45],%[v|45],%[l|45],%[d|45],v4,v5,v6]/\Ext H H'/\H' l=some (.lst ys)/\H' r2=%[ws|46]/\H' r3=%[rs|46]/\H' d=some (.dK kvs)/\vE ws rs ys i kvs) ⟨[],none,none,none,rfl,cS,cF,b1,h3,b2,vE.nil⟩ (λ i σ H' ⟨_,_,_,_,_,_,a,b,c,_⟩=>⟨a,b,c⟩) ?_ ?_
  ·rintro i x y z p _ H4 H5 hx hy hz ⟨kvs,v4,v5,v6,rfl,e4,a7,aX,a3,a4,aS⟩ hp e5 h5;rw [Rq] at hy hz;obtain⟨wc,hw,rfl⟩:=Rm.mp hy;obtain⟨rc,a8,rfl⟩:=Rm.mp hz;have hi:i < ys.length:=(Rf.mp hx).1;have bt:=e5.at a7;have a5:=e5.at aX;have a6:=e5.at a3;have a9:=e5.at a4;have cT:kvs.length < sizeLine:=iB (by have:=aS.len;omega);have b3:=e4.trans e5
   by_cases hne:wc=rc
   ·subst hne;have hn:=aS.skip hw a8;exists hn;clear aS hx hy hz hw a8 a7 aX a3 a4 k hp;simp! only [↓aD];exact⟨kvs,_,_,_,rfl,b3,rfl,hn ()⟩
   ·have hn:=aS.put hw a8 hne hx;exists hn;have n1:l ≠ d:=λ z=>by rw [z,a9] at bt;cases bt
    have n2:r2 ≠ d:=λ z=>by rw [z,a9] at a5;cases a5
    have n3:r3 ≠ d:=λ z=>by rw [z,a9] at a6;cases a6
    clear aS hx hy hz hw a8 a7 aX a3 a4 k hp;simp! only [↓aD];refine pL (k:=.inl wc) a9 cT ?_;exact⟨_,_,_,_,rfl,b3.put hd,by rw [ah n1];exact bt,by rw [ah n2];exact a5,by rw [ah n3];exact a6,aq,hn ()⟩
  ·rintro _ H4 ⟨kvs,v4,v5,v6,rfl,e4,a7,aX,a3,a4,aS⟩;have b4:min ys.length (min (ws.map V.int).length (rs.map V.int).length)=ys.length:=by rw [Rh,Rh];omega
   rw [b4] at aS;have k':=k () d kvs H4 e4 hd a4 aS;clear k aS b4;ac_rfl
def cG(ws rs:List Int)(j:Nat):List (Nat × Nat):=match rs[j]? with
 | some c=>(match ws.findIdx? (λ x=>decide (x=c)) with
  | some i=>if rs[i]? = some c then [] else [(i,j)]
  | none=>[])
 | none=>[]
def aP(ws rs:List Int)(n:Nat):List (Nat × Nat):=(List.range n).flatMap (cG ws rs)
def ib(ws rs:List Int)(n:Nat):aP ws rs (n+1)=aP ws rs n++cG ws rs n:=by
 unfold aP;rw [List.range_succ,List.flatMap_append,List.flatMap_singleton]
def sP{ws:List Int}{c:Int}{n:Nat}(aS:ws.Nodup)(h:ws[n]? = some c):ws.findIdx? (λ x=>decide (x=c))=some n:=by
 obtain⟨hn,he⟩:=Rf.mp h;rw [SD];refine⟨hn,Rp he,λ j hj=>?_⟩;intro aX;have e2:=RW aX;exact absurd ((Uj aS).mp (e2.trans he.symm)) %[0|8]
def vE.pair{ws rs:List Int}{ys:List V}{kvs:List (Key × V)}{c:Int}{j n:Nat}(h:vE ws rs ys n kvs)(aS:ws.Nodup)(hl:ws.length<=n)(hj:rs[j]? = some c) :
  (eK kvs (.inl c)=none->cG ws rs j=[])/\∀ x,eK kvs (.inl c)=some x->∃ i,cG ws rs j=[(i,j)]/\ys[i]? = some x:=by
 refine⟨λ hv=>?_,λ x hv=>?_⟩
 ·unfold cG;rw [hj]
  show (match ws.findIdx? (λ x=>decide (x=c)) with|some i=>if rs[i]? = some c then [] else [(i,j)]|none=>[])=[]
  cases hf:ws.findIdx? (λ x=>decide (x=c)) with
  | none=>rfl
  | some i=>
   rw [SD] at hf;obtain⟨hi,he,_⟩:=hf;have aX:=RW he
   by_cases hr:rs[i]? = some c
   ·show (if rs[i]? = some c then [] else [(i,j)])=[]
    rw [RP hr]
   ·exact absurd hv (h.has i c %[0|8] (by rw [Rb hi,aX]) hr)
 ·obtain⟨i,hi,hw,hr,hx⟩:=h.get c x hv;refine⟨i,?_,hx⟩;unfold cG;rw [hj]
  show (match ws.findIdx? (λ x=>decide (x=c)) with|some i=>if rs[i]? = some c then [] else [(i,j)]|none=>[])=_
  rw [sP aS hw]
  show (if rs[i]? = some c then [] else [(i,j)])=_
  rw [RH hr]
def iZ(H:Hp)(ys:List V)(ij:Nat × Nat)(y:V):Prop:=∃ q u v,y=.ref q/\H q=some (.tup [u,v])/\ys[ij.1]? = some u/\ys[ij.2]? = some v
def iZ.ext{H H':Hp}{ys:List V}{ij:Nat × Nat}{y:V}(h:iZ H ys ij y)(e:Ext H H'):iZ H' ys ij y:=by
 obtain⟨q,u,v,h1,h2,h3⟩:=h;exact⟨q,u,v,h1,e.at h2,h3⟩
def iZ.upd{H:Hp}{ys:List V}{ij:Nat × Nat}{y:V}{r:Addr}{zs:List V}{o:HO}(h:iZ H ys ij y)(hr:H r=some (.lst zs)):iZ (upd H r o) ys ij y:=by
 obtain⟨q,u,v,h1,h2,h3⟩:=h;exact⟨q,u,v,h1,by rw [ah (λ z=>by rw [z,hr] at h2;cases h2)];exact h2,h3⟩
def nO{α:Type}{R:α->V->Prop}{zs:List α}{z:α}{ys:List V}{y:V}(h:Al R zs ys)(r:R z y):Al R (zs++[z]) (ys++[y]):=by
 refine⟨by rw [RI,RI,h.1];rfl,λ i a b ha hb=>?_⟩
 by_cases hi:i < zs.length
 ·rw [R8 hi] at ha;rw [R8 (by rw [h.1];exact hi)] at hb;exact h.2 i a b ha hb
 ·rw [R1 %[0|8]] at ha;rw [R1 (by rw [h.1];omega),h.1] at hb
  have h0:i - zs.length=0:=by
   have:=(Rf.mp ha).1;simp at this;omega
  rw [h0] at ha hb;cases ha;cases hb;exact r
abbrev qY(C:Addr)(u:Addr)(v:Addr)(H:Hp)(Q:VK)(E:XK):Prop:=∃ (room f1 f2:Int) (A B:%[0|48]),aE C H u room f1 A/\aE C H v room f2 B/\fM A/\fM B/\(A.map λ a=>a.1)=(B.map λ a=>a.1)/\ae (A.map λ a=>a.1)<=4096/\(af f1 A).Nodup/\∀ (l r:Addr) (ys zs:List V) (H':Hp),Ext H H'->H r=none->H' l=some (.lst ys)->Al (bE H') (bB (A.map λ a=>a.1)) ys->H' r=some (.lst zs)->Al (iZ H' ys) (aP (af f1 A) (af f2 B) (af f2 B).length) zs->Q (.ref r) H'
def sH(C:Addr):Sp:=λ vs H Q E=>∃ (u:Addr) (v:Addr),vs=[.ref u,.ref v]/\(qY C u v H Q E)
def iN(C:Addr)(u:Addr)(v:Addr)(H:Hp)(Q:VK)(E:XK):sH C [.ref u,.ref v] H Q E=(qY C u v H Q E):=iu (f:=λ (u:Addr) (v:Addr)=>[.ref u,.ref v]) (λ _ _ _ _ h=>by cases h;exact⟨rfl,rfl⟩) u v
def cR(T:Tx K mg t):%[7,A3|49] ["to", "source"] (sH t.a_V3):=by
 have G_wJ:=%[gx|44];have G_rD:=%[bC|44];have G_AW:=%[lP|44];have G_VU:=%[qp|44];have G_A8:=%[aZ|44];have G_Bb:=%[cy|44];have G_tT:=%[fU|44];refine T.F_A3.ok bT (λ _ _ _ _ h=>iw h λ _ _=>rfl) %[0|50]
 ·obtain⟨u,v,rfl,room,f1,f2,A,B,vu,vv,hA,hB,hs,hc,cS,kN⟩:=h;obtain⟨dx,D,hu,_⟩:=vu.ob;obtain⟨dy,D2,hv,_⟩:=vv.ob;have c1:=T.cl_View;have g1:=vn room f1 D (m := "sizes") nofun;have g2:=vn room f2 D2 (m := "cells") nofun;refine⟨_,%[%[%[wJ,%[%[0|0],%[%[1|0]|1]|1]|3],∅|20],%[%[%[rD,%[%[0|0],%[%[1|0]|1]|1]|3],∅|20],%[%[%[AW,%[%[0|0]|1]|3],∅|20],%[%[2,bT,%[VU,%[%[%[0|0],T.cl_View,T.mt_View_sizes,G_A8,(hr.mono ⋯),T.b_A8,.nil,aW,∅|23]|1]|3]|4],%[%[3,bT,%[tT,%[%[0|0],%[%[1|0],%[%[2|0]|1]|1]|1]|3]|4],%[%[4,bT,%[(@cU _)|18]|4],%[%[RA,rfl,%[∅,T.z_zip,%[%[2|0],%[%[%[1|0],T.cl_View,T.mt_View_cells,G_Bb,(hr.mono ⋯),T.b_Bb,.nil,aW,∅|23]|1]|1],∅,∅|39],(%[(2),rfl,%[%[5,bT|5],%[%[6,bT|5],(@aK _),∅|16],∅|16],∅,∅|25].mono λ _ _ _ _ h=>bX h),%[%[%[(Fi (fN hr.units)),%[6|0],%[3|0],(by with_unfolding_all rfl)|15],%[%[%[RS,SU,SS,dD,%[4|0],%[%[%[(@yB _ _ _ _ _ _ (fN hr.units) %[3|0] %[6|0] (λ _ _=>rfl)),%[%[5|0]|1]|1]|29]|1],∅,∅,∅,∅,∅|37],∅|20]|10],(@au _)|17]|10],(by intros;rfl)|21],%[%[%[4|0]|11]|10]|9]|9]|9]|9]|9]|9]|9],?_⟩;rw [show az ["to", "source", "spots", "written", "found", "place", "cell"] [.ref u,.ref v]=[%[u|45],%[v|45],none,none,none,none,none] from rfl];clear G_wJ G_rD G_AW G_VU G_A8 G_Bb G_tT;exists hs;exists kN;exists cS;ac_rfl;rw [qG];refine⟨room,f1,f2,A,B,vu,vv,?_⟩;ac_rfl;rw [js];refine⟨room,room,f1,f2,A,B,vu,vv,hA.1,hs (),λ H1 e1=>?_⟩;have dz:=vu.ext e1;have ep:=vv.ext e1;ac_rfl;rw [BB];refine⟨room,f1,A,dz,hA,hc,cS (),λ H2 e2=>?_⟩;have cT:=kN ();have b1:=e1.trans e2;have et:=b1.at hu;have d0:=vu.ext b1;have ew:=vv.ext b1;exists cT;clear kN dz ep;ac_rfl;rw [bA];refine⟨room,f1,A,d0,hA.1,λ r3 H3 ey e3 h3=>?_⟩;have hsz:dA (A.map λ a=>a.1):=hA.sizes;have c0:=b1.trans e3;have ez:=vu.ext c0;have eH:=vv.ext c0;clear ey et d0 ew;simp! only [↓m3,↓iY,↓yl];refine⟨λ r4 H4 e0 e4 t4=>?_,by omega⟩;obtain⟨ys,h4,c2⟩:=t4;have c3:=c0.trans e4;have d1:=vu.ext c3;have d2:=vv.ext c3;have p1:1<=ae (A.map λ a=>a.1):=bJ _ λ m hm=>(hsz.2 m hm).1;have fa:(ys.length:Int)=ae (A.map λ a=>a.1):=by rw [c2.1,eP];omega
  clear e0 ez eH h3;ac_rfl;rw [EV];refine⟨room,f1,f2,A,B,ys,d1,d2,hA,hB,hs (),hc,h4,fa,λ d kvs H5 e5 f5 h5 d3=>?_⟩;have b2:=c3.trans e5;have a3:=e5.at h4;have d4:=c2.imp λ _ _ t=>bE.ext t e5;have d5:=b2.at hv;have fb:=vv.ext b2;have l1:=aB f1 A λ b hb=>(hA.2 b hb).1;have l2:=aB f2 B λ b hb=>(hB.2 b hb).1;rw [←hs ()] at l2;clear d1 d2 h4 c2;ac_rfl;intro r6 H6 b3 e6 h6;have fo:=e6.at d5;have b5:=e6.at a3;have cb:=e6.at h5;have f6:H r6=none:=b2.free b3;have n4:r4 ≠ r6:=λ z=>by rw [z,b3] at a3;cases a3
  have nd:d ≠ r6:=λ z=>by rw [z,b3] at h5;cases h5
  clear d5 a3 h5;ac_rfl;rw [eT];refine⟨room,f2,B,fb.ext e6,hB,λ _ r7 H7 c4 e7 h7=>?_,by rw [←hs ()];omega⟩;have n7:r7 ≠ r6:=λ z=>by rw [z,h6] at c4;cases c4
  have d6:=e7.at b5;have d7:=e7.at cb;have d8:=e7.at h6;have fu:=b2.trans (e6.trans e7);have fv:=e6.trans e7;have d9:=d4.imp λ _ _ t=>bE.ext t fv;generalize af f1 A=ws at *;generalize af f2 B=rs at *;have ea:=λ (_:Unit)=>λ {j:Nat} {c:Int} (hj:rs[j]? = some c)=>d3.pair (cS ()) %[0|8] hj;clear c4 fo b5 cb h6 d4 b3;ac_rfl;refine ko (ka:=false) (kb:=false) (xs:=ys) (ys:=rs.map V.int) (λ i σ H'=>∃ (zs:List V) (v5 v6:Option V),σ=[%[u|45],%[v|45],%[r4|45],%[d|45],%[r6|45],v5,v6]/\Ext H H'/\H' r4=some (.lst ys)/\H' r7=%[rs|46]/\H' d=some (.dK kvs)/\H' r6=some (.lst zs)/\Al (bE H') (bB (A.map λ a=>a.1)) ys/\zs.length<=i/\Al (iZ H' ys) (aP ws rs i) zs) ⟨[],none,none,rfl,fu,d6,h7,d7,d8,d9,Rl _,Al.nil⟩ (λ i σ H' ⟨_,_,_,_,_,a,b,_⟩=>⟨a,b⟩) ?_ ?_
  ·rintro i x y p _ H8 H9 hx hy ⟨zs,v5,v6,rfl,e8,a4,bb,bt,a5,bx,fx,a8⟩ hp e9 h9;rw [Rq] at hy;obtain⟨c,eb,rfl⟩:=Rm.mp hy;have hi:i < ys.length:=(Rf.mp hx).1;have ec:=e8.trans e9;have cf:=e9.at a4;have cm:=e9.at bb;have a6:=e9.at bt;have cF:=e9.at a5;have c5:=bx.imp λ _ _ t=>bE.ext t e9;have bS:=a8.imp λ _ _ t=>iZ.ext t e9;obtain⟨b4,a7⟩:=ea () eb;have c6:=ib ws rs i;have f7:zs.length < sizeLine:=iB %[0|8];exists c6;exists c5;exists bS;exists b4;exists a7;exists hx;clear hy eb a4 bb bt a5 bx a8 hp d9;simp! only [↓aD];refine E5 (k:=.inl c) a6 ?_
   cases a9:eK kvs (.inl c) with
   | none=>
    have hn:=b4 () a9;have fin:Al (iZ H9 ys) (aP ws rs (i+1)) zs:=by rw [c6 (),hn,T2];exact bS ()
    exists fin;clear b4 a7 hn a9;ac_rfl;exact⟨zs,_,_,rfl,ec,rfl,c5 (),by omega,fin ()⟩
   | some x0=>
    obtain⟨i0,eg,ei⟩:=a7 () x0 a9;exists eg;exists ei;have ej:=a9;exists a9;clear b4 a7 ej;ac_rfl;refine E6 (k:=.inl c) a6 (a9 ()) ?_;ac_rfl;intro fy f9 el aS f3;have aX:=aS.at cF;have c7:=aS.at cf;have c8:=aS.at cm;have de:=aS.at a6;clear el cF cf cm a6;ac_rfl;refine⟨_,_,_,rfl,(ec.trans aS).put f6,by rw [ah n4];exact c7,by rw [ah n7];exact c8,by rw [ah nd];exact de,rfl,?_,?_,?_⟩
    ·exact(c5 ()).imp λ _ _ t=>(bE.ext t aS).upd aX
    ·rw [RI];show _+1<=_;omega
    ·rw [c6 (),eg ()];exact nO ((bS ()).imp λ _ _ t=>(iZ.ext t aS).upd aX) (iZ.upd ⟨fy,x0,x,rfl,f3,ei (),hx ()⟩ aX)
  ·rintro _ H8 ⟨zs,v5,v6,rfl,e8,a4,bb,bt,a5,bx,fx,a8⟩;have en:min ys.length (rs.map V.int).length=rs.length:=by rw [Rh];omega
   rw [en] at a8;have k':=cT () r4 r6 ys zs H8 e8 f6 a4 bx a5 a8;clear cT a8 bx en ea d3;ac_rfl
structure BV(ws:List Int)(i:Nat)(kvs:List (Key × V)):Prop where
 len:kvs.length<=i
 get:∀ c x,eK kvs (.inl c)=some x->∃ n,n < i/\ws[n]? = some c/\x=.int (n:Int)
 has:∀ n c,n < i->ws[n]? = some c->eK kvs (.inl c) ≠ none
def BV.nil{ws:List Int}:BV ws 0 []:=⟨Rl _,(λ c x h=>by cases h),λ n c h=>absurd h (TR _)⟩
def BV.put{ws:List Int}{i:Nat}{kvs:List (Key × V)}{c:Int}(h:BV ws i kvs)(hw:ws[i]? = some c):BV ws (i+1) (l0 kvs (.inl c) (.int (i:Int))):=by
 refine⟨by have:=h.len;have:=uN kvs (.inl c) (.int (i:Int));omega,λ c' x hc=>?_,λ n c' hn h1=>?_⟩
 ·rw [gC] at hc;split at hc
  ·rename_i he;cases hc;cases he;exact⟨i,Ss _,hw,rfl⟩
  ·obtain⟨n,a,b⟩:=h.get c' x hc;exact⟨n,by omega,b⟩
 ·rw [gC];split
  ·exact Uq _
  ·rename_i aS
   by_cases hni:n=i
   ·subst hni;rw [hw] at h1;cases h1;exact absurd rfl aS
   ·exact h.has n c' %[0|8] h1
def BV.none'{ws rs:List Int}{kvs:List (Key × V)}{c:Int}{j n:Nat}(h:BV ws n kvs)(hl:ws.length<=n)(hj:rs[j]? = some c)(hv:eK kvs (.inl c)=none):cG ws rs j=[]:=by
 unfold cG;rw [hj]
 show (match ws.findIdx? (λ x=>decide (x=c)) with|some i=>if rs[i]? = some c then [] else [(i,j)]|none=>[])=[]
 cases hf:ws.findIdx? (λ x=>decide (x=c)) with
 | none=>rfl
 | some i=>
  rw [SD] at hf;obtain⟨hi,he,_⟩:=hf;have aS:=RW he;exact absurd hv (h.has i c %[0|8] (by rw [Rb hi,aS]))
def zX{ws rs:List Int}{c:Int}{j i:Nat}(aS:ws.Nodup)(hj:rs[j]? = some c)(hi:ws[i]? = some c):cG ws rs j=if rs[i]? = some c then [] else [(i,j)]:=by
 unfold cG;rw [hj]
 show (match ws.findIdx? (λ x=>decide (x=c)) with|some i=>if rs[i]? = some c then [] else [(i,j)]|none=>[])=_
 rw [sP aS hi]
def ijL(zs:List (Nat × Nat)):%[0|48]:=zs.map λ z=>((z.1:Int),(z.2:Int))
def vW(ws rs:List Int)(j:Nat):(cG ws rs j).length<=1:=by
 unfold cG
 repeat' split
 all_goals simp
def dt(ws rs:List Int):∀ n,(aP ws rs n).length<=n
 | 0=>Rl _
 | n+1=>by
  rw [ib,RI];have:=dt ws rs n;have:=vW ws rs n;omega
def zI{H:Hp}{r q:Addr}{zs:List (Nat × Nat)}{z:Nat × Nat}{ys:List V}(h:Al (bE H) (axL (ijL zs)) ys)(hr:H r=some (.lst ys))(hq:H q=some (.tup [.int (z.1:Int),.int (z.2:Int)])):Al (bE (upd H r (.lst (ys++[.ref q])))) (axL (ijL (zs++[z]))) (ys++[.ref q]):=by
 have e:axL (ijL (zs++[z]))=axL (ijL zs)++[[(z.1:Int),(z.2:Int)]]:=by unfold axL ijL;rw [map_append,map_append];rfl
 rw [e];exact nO (h.imp λ _ _ t=>bE.upd t hr) (bE.upd ⟨q,rfl,hq⟩ hr)
abbrev nr  (p:Addr) (q:Addr) (H:Hp) (Q:VK) (E:XK):Prop:=∃ ws rs:List Int,H p=%[ws|46]/\H q=%[rs|46]/\ws.Nodup/\rs.length=ws.length/\ws.length<=4096/\∀ (r:Addr) (H':Hp),H r=none->Ext H H'->aR H' r (axL (ijL (aP ws rs rs.length)))->Q (.ref r) H'
def oh  : Sp:=λ vs H Q E=>∃ (p:Addr) (q:Addr),vs=[.ref p,.ref q]/\(nr  p q H Q E)
def wY  (p:Addr) (q:Addr) (H:Hp) (Q:VK) (E:XK):oh  [.ref p,.ref q] H Q E=(nr  p q H Q E):=iu (f:=λ (p:Addr) (q:Addr)=>[.ref p,.ref q]) (λ _ _ _ _ h=>by cases h;exact⟨rfl,rfl⟩) p q
def oS(T:Tx K mg t):%[1,DJ|49] ["_law_writes", "_law_reads"] oh:=by
 refine T.F_DJ.ok cn (λ _ _ _ _ h=>iw h λ _ _=>rfl) %[0|50]
 ·obtain⟨p,q,rfl,ws,rs,hp,hq,bS,hlen,c4,k⟩:=h;refine⟨_,%[%[2,cn,(@iE _ _)|4],%[%[RA,rfl,%[∅,T.z_range,%[%[len,ao,%[%[0|0]|1]|6]|1],∅|32],%[3,cn|5],%[(@kj _ _ _ _ _ _ _ _ _ (fN hr.units) %[2|0] %[cq,%[0|0],%[3|0],(λ _ _=>rfl)|12] %[3|0] rfl)|10],(by intros;rfl)|21],%[%[4,cn,%[(@cU _)|18]|4],%[%[RA,rfl,%[∅,T.z_range,%[%[len,ao,%[%[1|0]|1]|6]|1],∅|32],%[5,cn|5],%[%[6,cn,(@Dc _ _ _ _ _ _ _ (fN hr.units) %[2|0] %[cq,%[1|0],%[5|0],(λ _ _=>rfl)|12] ⟨by rfl,by rfl,by rfl,by rfl⟩)|4],%[%[(PW.pt %[%[ow,%[6|0],(@mz _ _ _),(ar _)|15],%[%[(dk hr.units),%[6|0],%[5|0],(ar _)|15],(@i9 _ _ _ _ %[(dk hr.units),%[cq,%[1|0],%[6|0],(λ _ _=>rfl)|12],%[cq,%[0|0],%[6|0],(λ _ _=>rfl)|12],(ar _)|15])|42]|42]),%[%[%[RS,SU,SS,dD,%[4|0],%[%[%[%[6|0],%[%[5|0]|1]|1]|29]|1],∅,∅,∅,∅,∅|37],∅|20]|10],(@au _)|17]|10]|9],(by intros;rfl)|21],%[%[%[4|0]|11]|10]|9]|9]|9]|9],?_⟩;rw [show az ["_law_writes", "_law_reads", "_law_holder", "_law_n", "_law_found", "_law_j", "_law_i"] [.ref p,.ref q]=[%[p|45],%[q|45],none,none,none,none,none] from rfl];exists k;exists bS;ac_rfl;intro d H1 hd e1 h1;have b1:=e1.at hp;have b2:=e1.at hq;ac_rfl;refine⟨by omega,by omega,?_⟩;refine gZ (λ i σ H'=>∃ (kvs:List (Key × V)) (v3:Option V),σ=[%[p|45],%[q|45],%[d|45],v3,none,none,none]/\Ext H H'/\H' d=some (.dK kvs)/\BV ws i kvs) ⟨[],none,rfl,e1,h1,BV.nil⟩ ?_ ?_
  ·rintro i _ H2 hi ⟨kvs,v3,rfl,e2,h2,ho⟩;have cf:i < ws.length:=by have:i < ((ws.length:Int)).toNat:=hi;omega
   obtain⟨c,hc⟩:∃ c,ws[i]? = some c:=⟨_,Rb cf⟩;have hn:=ho.put hc;have b3:kvs.length < sizeLine:=iB (by have:=ho.len;omega);have cm:atI (ws.map V.int) (0+(i:Int))=some (V.int c):=by rw [RZ];exact cI (by rw [Rq,hc];rfl)
   have a3:=e2.at hp;exists hn;clear ho hc hi k b1 b2 h1;simp! only [↓aD];refine pL (k:=.inl c) h2 b3 ?_;exact⟨_,_,rfl,e2.put hd,aq,by rw [RZ];exact hn ()⟩
  ·rintro _ H2 ⟨kvs,v3,rfl,e2,h2,ho⟩;have a3:=e2.at hp;have a5:=e2.at hq;have a4:((ws.length:Int)).toNat=ws.length:=by omega
   rw [a4] at ho;clear b1 b2 h1 e1 a4;ac_rfl;intro r H3 a6 e3 h3;have cF:=e3.at a3;have cS:=e3.at a5;have bt:=e3.at h2;have cT:=e2.trans e3;have b4:H r=none:=e2.free a6;exists ho;have nd:d ≠ r:=λ z=>by rw [z,a6] at h2;cases h2
   have np:p ≠ r:=λ z=>by rw [z,a6] at a3;cases a3
   have nq:q ≠ r:=λ z=>by rw [z,a6] at a5;cases a5
   clear a3 a5 h2;ac_rfl;refine⟨by omega,by omega,?_⟩;refine gZ (λ i σ H'=>∃ (ys:List V) (v5 v6:Option V),σ=[%[p|45],%[q|45],%[d|45],v3,%[r|45],v5,v6]/\Ext H H'/\H' d=some (.dK kvs)/\H' r=some (.lst ys)/\Al (bE H') (axL (ijL (aP ws rs i))) ys) ⟨[],none,none,rfl,cT,bt,h3,⟨rfl,λ i z y hz=>by cases hz⟩⟩ ?_ ?_
   ·rintro j _ H4 hj ⟨ys,v5,v6,rfl,e4,a7,h4,al⟩;have c0:j < rs.length:=by have:j < ((ws.length:Int)).toNat:=hj;omega
    obtain⟨c,hc⟩:∃ c,rs[j]? = some c:=⟨_,Rb c0⟩;have cm:atI (rs.map V.int) (0+(j:Int))=some (V.int c):=by rw [RZ];exact cI (by rw [Rq,hc];rfl)
    have c5:=e4.at hp;have c6:=e4.at hq;have aS:=ib ws rs j
    have c7:ys.length<=4096:=by
     have:=dt ws rs j;have:=al.1;unfold axL ijL at this;rw [length_map,length_map] at this;omega
    have a8:eK kvs (.inl c)=none->cG ws rs j=[]:=λ hv=>(ho ()).none' (Rl _) hc hv
    have aX:∀ x,eK kvs (.inl c)=some x->∃ n,n < ws.length/\x=.int (n:Int)/\ws[n]? = some c/\cG ws rs j=if rs[n]? = some c then [] else [(n,j)]:=λ x hv=>by
     obtain⟨n,h1,h2,h3⟩:=(ho ()).get c x hv;exact⟨n,h1,h3,h2,zX (bS ()) hc h2⟩
    exists a8;exists aX;exists al;exists aS;exists hc;clear k hj h3 cF cS bt e2;simp! only [↓aD];refine Co a7 ?_;ac_rfl;refine GH (k:=.inl c) a7 ?_
    cases hvv:eK kvs (.inl c) with
    | none=>
     have hn:=a8 () hvv;have fin:Al (bE H4) (axL (ijL (aP ws rs (j+1)))) ys:=by rw [aS (),hn,T2];exact al ()
     exists fin;clear a8 aX hn hvv aS al;rw [VD];ac_rfl;exact⟨_,_,_,rfl,e4,rfl,fin ()⟩
    | some x0=>
     obtain⟨n,hn,rfl,a9,bb⟩:=aX () x0 hvv;clear a8 aX hvv;obtain⟨b,hb⟩:∃ b,rs[n]? = some b:=⟨_,Rb %[0|8]⟩;have c2:atI (rs.map V.int) (n:Int)=some (V.int b):=cI (by rw [Rq,hb];rfl);have c3:atI (ws.map V.int) (n:Int)=some (V.int c):=cI (by rw [Rq,a9];rfl);replace aS:=aS ();rw [bb] at aS;rw [VC]
     by_cases hnj:n=j
     ·subst hnj;have bx:rs[n]? = some c:=hc ();rw [RP bx,T2] at aS;have fin:Al (bE H4) (axL (ijL (aP ws rs (n+1)))) ys:=by rw [aS];exact al ()
      exists fin;clear aS bb al a9 hb bx hc;ac_rfl;rw [RH (show ¬ ¬ (n:Int)=0+(n:Int) from λ h=>h (RZ _).symm)];exact⟨_,_,_,rfl,e4,rfl,fin ()⟩
     by_cases hbc:b=c
     ·subst hbc;rw [RP hb,T2] at aS;have fin:Al (bE H4) (axL (ijL (aP ws rs (j+1)))) ys:=by rw [aS];exact al ()
      exists fin;have b5:¬ (n:Int)=0+(j:Int):=by omega
      clear aS bb al a9 hb hc;ac_rfl;exact⟨_,_,_,rfl,e4,rfl,fin ()⟩
     ·rw [RH (by rw [hb];intro z;exact hbc (RE z))] at aS;exists aS;have b5:¬ (n:Int)=0+(j:Int):=by omega
      have b3:ys.length < sizeLine:=iB %[0|8];clear bb a9 hb hc;ac_rfl;intro g H5 hg e5 h5;have cb:=e5.at h4;have c1:=e5.at a7;ac_rfl;refine⟨_,_,_,rfl,(e4.trans e5).put b4,by rw [ah nd];exact c1,rfl,?_⟩;rw [aS ()];exact zI (z:=(n,j)) ((al ()).imp λ _ _ t=>bE.ext t e5) cb (by rw [h5,RZ])
   ·rintro _ H4 ⟨ys,v5,v6,rfl,e4,a7,h4,al⟩;have a4:((ws.length:Int)).toNat=rs.length:=by omega
    rw [a4] at al;have k':=k () r H4 b4 e4 ⟨ys,h4,al⟩;clear k al a4;ac_rfl
abbrev zv  (p:Addr) (H:Hp) (Q:VK) (E:XK):Prop:=∃ ns:List Int,H p=%[ns|46]/\dA ns/\ae ns<=4096/\∀ (r:Addr) (H':Hp),Ext H H'->aR H' r (bB ns)->Q (.ref r) H'
def FN  : Sp:=λ vs H Q E=>∃ (p:Addr),vs=[.ref p]/\(zv  p H Q E)
def JE  (p:Addr) (H:Hp) (Q:VK) (E:XK):FN  [.ref p] H Q E=(zv  p H Q E):=lZ (f:=λ (p:Addr)=>[.ref p]) (λ _ _ h=>by cases h;exact rfl) p
def mh(T:Tx K mg t):%[1,A5|49] ["_law_sizes"] FN:=by
 refine T.F_A5.ok bU (λ _ _ _ _ h=>lX h λ _=>rfl) %[0|50]
 ·obtain⟨p,rfl,ns,hp,hs,hc,kk⟩:=h;refine⟨_,%[%[1,bU,%[%[%[(@cU _)|29]|1]|18]|4],%[%[RA,rfl,%[%[0|0]|19],%[2,bU|5],%[%[3,bU,%[(@cU _)|18]|4],%[%[RA,rfl,%[%[1|0]|19],%[(4),_,bU.nd,rfl,(Or.inr rfl),%[0|7]|14],%[%[%[RS,TK,TJ,iK,%[3|0],%[%[(["_law_k", "_law_sizes", "_law_found", "_law_size", "_law_longer", "_law_place"]),(1),(aC (aa dr) ["_law_sizes", "_law_found", "_law_size", "_law_longer", "_law_place"] rfl rfl nofun),rfl,%[∅,T.z_range,%[%[2|0]|1],∅|32],(λ _ _ _ _ _=>%[0,["_law_k", "_law_sizes", "_law_found", "_law_size", "_law_longer", "_law_place"]|51]),(λ _ _ _ _ _=>(@aG _)),(λ _ _ _ _ _=>%[oy,%[5|0],%[%[%[0|0]|1]|29]|13]),(by intros;rfl)|22]|1],∅,∅,∅,∅,∅|37],∅|20]|10],(by intros;rfl)|21],%[%[1,bU,%[3|0]|4]|10]|9]|9],(by intros;rfl)|21],%[%[%[1|0]|11]|10]|9]|9],?_⟩;rw [show az ["_law_sizes", "_law_found", "_law_size", "_law_longer", "_law_place"] [.ref p]=[%[p|45],none,none,none,none] from rfl];ac_rfl;intro q0 H0 b3 e0 h0;ac_rfl;intro r H1 b4 e1 h1;have b5:=(e0.trans e1).at hp;ac_rfl;refine cw (xs:=ns.map V.int) (λ i σ H'=>∃ (r:Addr) (v2 v3 v4:Option V),σ=[%[p|45],%[r|45],v2,v3,v4]/\Ext H H'/\aR H' r (bB (ns.take i))) ⟨r,_,_,_,rfl,e0.trans e1,⟨_,h1,rfl,λ i z y hz hy=>?_⟩⟩ (λ i σ H' _ ⟨_,_,_,_,_,e,_⟩=>e.at hp) ?_ ?_
  ·have e':bB (ns.take 0)=[[]]:=rfl;rw [e'] at hz
   cases i with
   | zero=>simp at hz hy;subst hz;subst hy;exact⟨q0,rfl,e1.at h0⟩
   | succ i=>simp at hz
  ·rintro i x _ H2 hi ⟨r,v2,v3,v4,rfl,e2,⟨ys,a3,al⟩⟩;rw [Rq] at hi;obtain⟨n,hn,rfl⟩:=Rm.mp hi;have hb:=hs.2 n (Rx hn);have cb:=(hs.take i).prod.1;have htk:ns.take (i+1)=ns.take i++[n]:=by rw [R7,hn];rfl
   have b2:bB (ns.take (i+1))=(bB (ns.take i)).flatMap λ row=>(List.range n.toNat).map λ k=>row++[((k:Nat):Int)]:=by
    rw [htk];exact mL _ n %[0|8] %[0|8]
   have hlen:(bB (ns.take i)).length * n.toNat<=4096:=by
    have q1:=fJ ns (λ m hm=>(hs.2 m hm).1) (i+1);rw [htk,aT,show ae [n]=n by simp [ae]] at q1;rw [eP]
    have q2:((ae (ns.take i)).toNat * n.toNat:Nat)=(ae (ns.take i) * n).toNat:=by
     obtain⟨a,ha⟩:=RF (show 0<=ae (ns.take i) by omega);obtain⟨b,bt⟩:=RF (show 0<=n by omega);rw [ha,bt];rfl
    omega
   have bx:∀ z∈bB (ns.take i),z.length<=8:=λ z hz=>by
    unfold bB at hz;obtain⟨j,_,rfl⟩:=List.mem_map.mp hz;rw [bo];exact(hs.take i).1
   clear hi htk;simp! only [↓aD];intro L H3 hL e3 h3;have cf:r ≠ L:=λ z=>by rw [z,hL] at a3;cases a3
   ac_rfl;have cm:=e3.at a3;ac_rfl;refine cw (xs:=ys) (λ j σ H'=>∃ (v4:Option V) (aX:List V),σ=[%[p|45],%[r|45],%[n|47],%[L|45],v4]/\Ext H2 H'/\H' L=some (.lst aX)/\Al (bE H') (((bB (ns.take i)).take j).flatMap λ row=>(List.range n.toNat).map λ k=>row++[((k:Nat):Int)]) aX) ⟨_,[],rfl,e3,h3,by simpa using Al.nil⟩ (λ j σ H' _ ⟨_,_,_,e,_⟩=>e.at a3) ?_ ?_
   ·rintro j y _ H4 hj ⟨v4,aX,rfl,e4,g4,aS⟩;obtain⟨z,hz,q,rfl,hq⟩:=cL (al.imp λ _ _ t=>t.ext e4) hj;have cF:=bx z (Rx hz);have a5:=qA (bB (ns.take i)) (λ row=>(List.range n.toNat).map λ k=>row++[((k:Nat):Int)]) j z hz;have a7:=uV (bB (ns.take i)) (λ row=>(List.range n.toNat).map λ k=>row++[((k:Nat):Int)]) n.toNat (λ _ _=>by rw [Rh,RL]) (j+1);rw [a5,RI,Rh,RL] at a7;have a8:=aS.1;rw [a5];generalize ((bB (ns.take i)).take j).flatMap (λ row=>(List.range n.toNat).map λ k=>row++[((k:Nat):Int)])=fs at aS a8 a7;have hsz:(z.map V.int).length+1<=sizeLine:=ak (by rw [Rh];omega);exists aS;clear a5 hz hj;simp! only [↓aD];refine⟨by omega,by omega,?_⟩;refine dF (List.range n.toNat) (λ _=>true) (λ j x H'=>x=.int (0+(j:Nat))) (λ D k y H'=>∃ g,y=.ref g/\H' g=some (.tup ((z++[((k:Nat):Int)]).map V.int))) di.1 di.2 (λ D _ y H1 H2 ⟨q,h1,h3⟩ e=>⟨q,h1,e.at h3⟩) (λ D _ y H1 xs o ⟨q,h1,h3⟩ hD=>⟨q,h1,by rw [ah (λ z=>by rw [z,hD] at h3;cases h3)];exact h3⟩) (ak (by rw [RL];omega)) ?_ ?_
    ·intro D k x H' N1 N0 hk hD e _ hx k1 _;subst hx;have bS:=k1 rfl;have b1:=e.at hq;clear k1 hk kk;simp! only [↓aL,↓aJ];intro t1 H6 cS e6 h6;have cT:=e6.at b1;ac_rfl;rw [xv];refine⟨hsz,λ t2 H7 e7 h7=>?_⟩;exact bS _ H7 (e6.trans e7) ⟨t2,rfl,by rw [h7,SI,RZ];rfl⟩
    intro D a9 H6 hD e6 c0 a4;rw [ix] at a4;have g6:=e6.at g4;have a6:=a4.1;rw [RL] at a6;have c1:aX.length+a9.length<=sizeLine:=ak (by rw [a8,a6];omega)
    have bb:Al (bE H6) (fs++(List.range n.toNat).map λ k=>z++[((k:Nat):Int)]) (aX++a9):=pT ((aS ()).imp λ _ _ t=>t.ext e6) ⟨by rw [a6,Rh,RL],λ i' a b ha hb=>by
     rw [Rq] at ha;obtain⟨k,hk,rfl⟩:=Rm.mp ha;obtain⟨g,h1,h2⟩:=a4.2 i' k b hk hb;exact⟨g,h1,h2⟩⟩
    exists bb;clear aS a4 kk;ac_rfl;refine⟨ak %[0|8],_,_,rfl,(e4.trans e6).put hL,rfl,(bb ()).imp λ _ _ t=>t.upd g6⟩
   ·rintro _ H4 ⟨v4,aX,rfl,e4,g4,aS⟩;rw [al.1,R6] at aS;ac_rfl;exact⟨L,_,_,_,rfl,e2.trans e4,aX,g4,aS⟩
  ·rintro _ H2 ⟨r,v2,v3,v4,rfl,e2,tt⟩;rw [Rh,R6] at tt;ac_rfl;exact kk r H2 e2 tt
def bR(f:Int)(A:%[0|48])(z:List Int):Int:=f+gB z (A.map λ a=>a.2)
def oB:∀ (A:%[0|48]) (z:List Int),InR (A.map λ a=>a.1) z->gB z ((A.map aN).map λ a=>a.2)=gB z (A.map λ a=>a.2)
 | [],[],_=>rfl
 | [],_::_,h=>h.elim
 | _::_,[],h=>h.elim
 | a::A,x::z,h=>by
  have ih:=oB A z h.2;have hx:(0<=x/\x < a.1):=h.1
  show gB (x::z) ((aN a).2::(A.map aN).map λ a=>a.2)=gB (x::z) (a.2::A.map λ a=>a.2)
  unfold gB at ih ⊢;rw [zipWith_cons_cons,zipWith_cons_cons,sum_cons,sum_cons,ih]
  have:x * (aN a).2=x * a.2:=by
   show x * (if a.1 > 1 then a.2 else 0)=_
   split
   ·rfl
   ·rw [show x=0 by omega,VA,VA]
  rw [this]
def qf{W W' R R':List Int->Int}:∀ (zs:List (List Int)) (vals:List Int),(∀ z∈zs,W z=W' z/\R z=R' z)->jX W R zs vals=jX W' R' zs vals
 | [],_,_=>rfl
 | z::zs,vals,h=>by
  have hz:=h z Rr
  show jX W R zs (vals.set (W z).toNat (vals.getD (R z).toNat 0))=jX W' R' zs (vals.set (W' z).toNat (vals.getD (R' z).toNat 0))
  rw [hz.1,hz.2];exact qf zs _ λ y hy=>h y (Ro _ hy)
def ym{ms:List Int}(hs:∀ n∈ms,1<=n/\n<=1000000000):∀ (os:%[0|48]) (fs:List (List Int)),(∀ o∈os,(0<=o.1/\o.1 < (ms.length:Int))/\(o.2=1\/o.2=-1))->(∀ pl∈fs,InR ms pl)->∀ z∈os.foldl (λ fs o=>fs.flatMap λ pl=>(mw ms o).map λ k=>pl.set o.1.toNat k) fs,InR ms z
 | [],fs,_,hf,z,hz=>hf z hz
 | o::os,fs,ho,hf,z,hz=>by
  refine ym hs os _ (λ o' aX=>ho o' (mem_cons_of_mem _ aX)) (λ pl aS=>?_) z hz;obtain⟨p0,a3,aS⟩:=List.mem_flatMap.mp aS;obtain⟨k,hk,rfl⟩:=List.mem_map.mp aS;unfold mw at hk;obtain⟨j,hj,rfl⟩:=List.mem_map.mp hk;have a4:=List.mem_range.mp hj;refine(hf p0 a3).set ?_ ?_
  ·unfold er
   split<;>omega
  ·unfold er
   split<;>omega
def nR{ms:List Int}{os:%[0|48]}(hs:∀ n∈ms,1<=n/\n<=1000000000)(ho:∀ o∈os,(0<=o.1/\o.1 < (ms.length:Int))/\(o.2=1\/o.2=-1)):∀ z∈aF ms os,InR ms z:=by
 refine ym hs os _ ho λ pl aS=>?_;rw [Rg.mp aS];have:=InR.zeros ms hs
 rwa [List.map_const'] at this
def mW{f room:Int}{A:%[0|48]}{z:List Int}(h0:0<=f+bw A)(h1:f+aY A < room)(hz:InR (A.map λ a=>a.1) z):0<=bR f A z/\bR f A z < room:=by
 have:=fw A z hz;unfold bR;omega
abbrev vf  (p:Addr) (q:Addr) (H:Hp) (Q:VK) (E:XK):Prop:=∃ ms z:List Int,H p=%[ms|46]/\H q=some (.tup (z.map V.int))/\(∀ m∈ms,1<=m/\m<=4096)/\InR ms z/\ae ms<=4096/\∀ H',Ext H H'->Q (.int (dQ ms z)) H'
def xG  : Sp:=λ vs H Q E=>∃ (p:Addr) (q:Addr),vs=[.ref p,.ref q]/\(vf  p q H Q E)
def EL  (p:Addr) (q:Addr) (H:Hp) (Q:VK) (E:XK):xG  [.ref p,.ref q] H Q E=(vf  p q H Q E):=iu (f:=λ (p:Addr) (q:Addr)=>[.ref p,.ref q]) (λ _ _ _ _ h=>by cases h;exact⟨rfl,rfl⟩) p q
def mi(T:Tx K mg t):%[1,A6|49] ["_law_sizes", "_law_place"] xG:=by
 refine T.F_A6.ok cz (λ _ _ _ _ h=>iw h λ _ _=>rfl) %[0|50]
 ·obtain⟨p,q,rfl,ms,z,hp,hq,h6,hz,a3,k⟩:=h;refine⟨_,%[%[2,cz,%[0|2]|4],%[%[RA,rfl,%[∅,T.z_zip,%[%[0|0],%[%[1|0]|1]|1],∅,∅|39],(%[(2),rfl,%[%[3,cz|5],%[%[4,cz|5],(@aK _),∅|16],∅|16],∅,∅|25].mono λ _ _ _ _ h=>bX h),%[%[2,cz,%[cv,%[eM,%[2|0],%[3|0]|13],%[4|0]|13]|4]|10],(by intros;rfl)|21],%[%[%[2|0]|11]|10]|9]|9],?_⟩;rw [show az ["_law_sizes", "_law_place", "_law_number_here", "_law_size", "_law_k"] [.ref p,.ref q]=[%[p|45],%[q|45],none,none,none] from rfl];have aS:=hz.len;exists k;ac_rfl;refine ko (ka:=false) (kb:=true) (xs:=ms.map V.int) (ys:=z.map V.int) (λ i σ H'=>∃ v3 v4:Option V,σ=[%[p|45],%[q|45],some (.int (dQ (ms.take i) (z.take i))),v3,v4]/\Ext H H') ⟨none,none,rfl,Ext.refl _⟩ (λ i σ H' ⟨_,_,_,e⟩=>⟨e.at hp,e.at hq⟩) ?_ ?_
  ·rintro i x y w' _ H2 H3 hx hy ⟨v3,v4,rfl,e2⟩ hw e3 h3;rw [Rq] at hx hy;obtain⟨a,ha,rfl⟩:=Rm.mp hx;obtain⟨b,hb,rfl⟩:=Rm.mp hy;have a4:=h6 a (Rx ha)
   have hn:dQ (ms.take (i+1)) (z.take (i+1))=dQ (ms.take i) (z.take i) * a+b:=by
    rw [R7,R7,ha,hb];exact qr _ _ a b (by rw [R0,R0];omega)
   have cm:pI (dQ (ms.take i) (z.take i)) a:=.inr ⟨by omega,by omega⟩;generalize dQ (ms.take i) (z.take i)=n at hn cm;exists hn;clear hx hy ha hb hw k h6;simp! only [↓aD];exact⟨_,_,by rw [hn ()],e2.trans e3⟩
  ·rintro _ H3 ⟨v3,v4,rfl,e3⟩;have aX:min (ms.map V.int).length (z.map V.int).length=ms.length:=by rw [Rh,Rh];omega
   rw [aX,R6,←aS,R6];have k':=k () H3 e3;clear k;ac_rfl
def vS(ms:List Int):(List.range ms.length).map (λ i=>ms.getD i 0)=ms:=by
 refine UG (by rw [Rh,RL]) λ i h1 h2=>?_;rw [List.getElem_map,Vn,RU,Rb h2];rfl
def uG{ms:List Int}{os:%[0|48]}(h:(os.map λ o=>o.1).Perm ((List.range ms.length).map λ (i:Nat)=>(i:Int))):ae (szO ms os)=ae ms:=by
 have e1:szO ms os=(os.map λ o=>o.1).map λ i=>ms.getD i.toNat 0:=by unfold szO;rw [map_map];rfl
 rw [e1,vT (h.map _),Se];have e2:((λ i:Int=>ms.getD i.toNat 0) ∘ λ (i:Nat)=>(i:Int))=λ i=>ms.getD i 0:=rfl;rw [e2,vS]
def iJ{H:Hp}{r:Addr}{os:%[0|48]}{n:Nat}(h:i6 os n)(t:aR H r (os.map λ o=>[o.1,o.2])):dc n H r os:=by
 refine⟨t,h.1,λ o ho=>⟨?_,h.2.2 o ho⟩⟩;have:=h.2.1.mem_iff.mp (Rj.mpr ⟨o,ho,rfl⟩);obtain⟨i,hi,e⟩:=Rj.mp this;have:=RO.mp hi;omega
def kL{os:%[0|48]}{n:Nat}(h:i6 os n):(os.map λ o=>o.1).Nodup:=by
 refine h.2.1.nodup_iff.mpr ?_;exact Tr.mpr (List.Pairwise.imp (λ h e=>h (Int.ofNat.inj e)) VF)
def dc.ext{n:Nat}{H H':Hp}{q:Addr}{os:%[0|48]}(h:dc n H q os)(e:Ext H H'):dc n H' q os:=⟨h.1.ext e,h.2⟩
def bq(x y:List Int)(a:Nat):Int:=x.getD a 0 - y.getD a 0
def crB:%[0|48]->List Int->List Int->Bool
 | [],_,_=>false
 | o::os,x,y=>if bq x y o.1.toNat=0 then crB os x y else decide (0 < bq x y o.1.toNat * o.2)
def dW{o:Int × Int}{os:%[0|48]}{x y:List Int}(h:bq x y o.1.toNat=0):crB (o::os) x y=crB os x y:=RP h
def dq{o:Int × Int}{os:%[0|48]}{x y:List Int}(h:¬ bq x y o.1.toNat=0):crB (o::os) x y=decide (0 < bq x y o.1.toNat * o.2):=RH h
def oA(x y:List Int)(a:Nat):bq y x a=-bq x y a:=by unfold bq;omega
def uY:∀ {os:%[0|48]}{x y:List Int},crB os x y=true->crB os y x=false
 | [],_,_,h=>by cases h
 | o::os,x,y,h=>by
  by_cases hg:bq x y o.1.toNat=0
  ·rw [dW hg] at h;rw [dW (by rw [oA];omega)];exact uY h
  ·rw [dq hg] at h;rw [dq (by rw [oA];omega),oA,Int.neg_mul];have:=RW h;exact Ry %[0|8]
def yS:∀ (os:%[0|48]) (x:List Int),crB os x x=false
 | [],_=>rfl
 | o::os,x=>by rw [dW (by unfold bq;omega)];exact yS os x
def nN:∀ {os qs:%[0|48]}{x y:List Int},crB os x y=true->crB (os++qs) x y=true
 | [],_,_,_,h=>by cases h
 | o::os,qs,x,y,h=>by
  rw [U3]
  by_cases hg:bq x y o.1.toNat=0
  ·rw [dW hg] at h ⊢;exact nN h
  ·rw [dq hg] at h ⊢;exact h
def oE:∀ {os qs:%[0|48]}{x y:List Int},(∀ o∈os,bq x y o.1.toNat=0)->crB (os++qs) x y=crB qs x y
 | [],_,_,_,_=>rfl
 | o::os,qs,x,y,h=>by
  rw [U3,dW (h o Rr)];exact oE λ o ho=>h o (Ro _ ho)
def qB:∀ {os:%[0|48]}{x y x' y':List Int},(∀ o∈os,bq x y o.1.toNat=bq x' y' o.1.toNat)->crB os x y=crB os x' y'
 | [],_,_,_,_,_=>rfl
 | o::os,x,y,x',y',h=>by
  have h0:=h o Rr;have ih:=qB (os:=os) λ o ho=>h o (Ro _ ho)
  by_cases hg:bq x y o.1.toNat=0
  ·rw [dW hg,dW (by rw [←h0];exact hg),ih]
  ·rw [dq hg,dq (by rw [←h0];exact hg),h0]
def dn(l:List Int)(a b:Nat)(v:Int):(l.set a v).getD b 0=if a=b/\a < l.length then v else l.getD b 0:=by
 rw [RU,RU,List.getElem?_set]
 by_cases h:a=b
 ·subst h
  by_cases hl:a < l.length
  ·rw [RP rfl,RP hl,RP ⟨rfl,hl⟩];rfl
  ·rw [RP rfl,RH hl,RH (λ z=>hl z.2),SK %[0|8]]
 ·rw [RH h,RH (λ z=>h z.1)]
def xk(n:Nat)(os:%[0|48]):Prop:=(∀ o∈os,(0<=o.1/\o.1 < (n:Int))/\(o.2=1\/o.2=-1))/\(os.map λ o=>o.1).Nodup
def xk.init{n:Nat}{os:%[0|48]}{o:Int × Int}(h:xk n (os++[o])):xk n os/\(∀ p∈os,¬ p.1.toNat=o.1.toNat)/\((0<=o.1/\o.1 < (n:Int))/\(o.2=1\/o.2=-1)):=by
 obtain⟨h1,h2⟩:=h;rw [SI] at h2;have h3:=Sm.mp h2;refine⟨⟨λ p hp=>h1 p (RB _ hp),h3.1⟩,λ p hp e=>?_,h1 o (RG _ (Rg.mpr rfl))⟩;have a:=(h1 p (RB _ hp)).1;have b:=(h1 o (RG _ (Rg.mpr rfl))).1;exact h3.2.2 p.1 (Rj.mpr ⟨p,hp,rfl⟩) o.1 (Rj.mpr ⟨o,Rg.mpr rfl,rfl⟩) %[0|8]
def ff{α:Type}{p:List α->Prop}(h0:p [])(h1:∀ l a,p l->p (l++[a])):∀ l,p l:=by
 intro l
 suffices h:∀ n (l:List α),l.length=n->p l from h _ l rfl
 intro n
 induction n with
 | zero=>intro l hl;rw [List.length_eq_zero_iff.mp hl];exact h0
 | succ n ih=>
  intro l hl;have aS:l ≠ []:=λ e=>by rw [e] at hl;simp at hl
  rw [←VM aS];exact h1 _ _ (ih _ (by rw [List.length_dropLast,hl];rfl))
def yK(x y:List Int)(a b:Nat)(u v:Int)(h:¬ a=b):bq (x.set a u) (y.set a v) b=bq x y b:=by
 unfold bq;rw [dn,dn,if_neg (λ z=>h z.1),if_neg (λ z=>h z.1)]
def lq(ms:List Int):∀ os:%[0|48],xk ms.length os->(aF ms os).Pairwise (λ x y=>crB os y x=true)/\∀ z∈aF ms os,z.length=ms.length:=by
 refine ff ?_ ?_
 ·intro _;refine⟨UJ _ _,λ z hz=>?_⟩;have a4:z∈[List.replicate ms.length (0:Int)]:=hz;rw [Rg.mp a4,S3]
 ·intro os o ih ho;obtain⟨a5,aX,⟨a8,a6⟩⟩:=ho.init;obtain⟨ip,il⟩:=ih a5;rw [gF];refine⟨List.pairwise_flatMap.mpr ⟨λ pl aS=>?_,?_⟩,λ z hz=>?_⟩
  ·rw [List.pairwise_map];unfold mw;rw [List.pairwise_map];refine List.pairwise_lt_range.imp λ {i j} a9=>?_;have a3:o.1.toNat < pl.length:=by rw [il pl aS];omega
   rw [oE λ p hp=>by rw [yK _ _ _ _ _ _ λ e=>aX p hp e.symm];unfold bq;omega]
   have hg:bq (pl.set o.1.toNat (er ms o (j:Int))) (pl.set o.1.toNat (er ms o (i:Int))) o.1.toNat=er ms o (j:Int) - er ms o (i:Int):=by
    unfold bq;rw [dn,dn,if_pos ⟨rfl,a3⟩,if_pos ⟨rfl,a3⟩]
   unfold er at hg
   rcases a6 with e|e
   ·rw [if_pos e,if_pos e] at hg;rw [dq (by unfold er;rw [if_pos e,if_pos e,hg];omega)];unfold er;rw [if_pos e,if_pos e,hg,e];exact decide_eq_true %[0|8]
   ·have e':¬ o.2=1:=by omega
    rw [if_neg e',if_neg e'] at hg;rw [dq (by unfold er;rw [if_neg e',if_neg e',hg];omega)];unfold er;rw [if_neg e',if_neg e',hg,e];exact decide_eq_true %[0|8]
  ·refine ip.imp λ {x y} a7=>?_;intro a ha b hb;obtain⟨u,_,rfl⟩:=Rj.mp ha;obtain⟨v,_,rfl⟩:=Rj.mp hb;refine nN ?_;rw [qB (x':=y) (y':=x) λ p hp=>yK _ _ _ _ _ _ λ e=>aX p hp e.symm];exact a7
  ·obtain⟨pl,aS,hz⟩:=S1.mp hz;obtain⟨k,_,rfl⟩:=Rj.mp hz;rw [Th,il pl aS]
def BP(n:Nat)(z:List Int)(os:%[0|48]):List Int:=os.foldl (λ pl o=>pl.set o.1.toNat (z.getD o.1.toNat 0)) (List.replicate n 0)
def qh(n:Nat)(z:List Int)(os:%[0|48])(o:Int × Int):BP n z (os++[o])=(BP n z os).set o.1.toNat (z.getD o.1.toNat 0):=by
 unfold BP;rw [foldl_append];rfl
def InR.getD:∀ {ms z:List Int}{a:Nat},InR ms z->a < ms.length->0<=z.getD a 0/\z.getD a 0 < ms.getD a 0
 | [],_,_,_,h=>by simp at h
 | _::_,[],_,h,_=>h.elim
 | m::ms,x::z,0,h,_=>h.1
 | m::ms,x::z,a+1,h,hl=>by
  have:=InR.getD (a:=a) h.2 (by simpa using hl)
  simpa using this
def GD{ms:List Int}{o:Int × Int}{x:Int}(h0:0<=x)(h1:x < ms.getD o.1.toNat 0):x∈mw ms o:=by
 unfold mw
 by_cases e:o.2=1
 ·refine List.mem_map.mpr ⟨x.toNat,List.mem_range.mpr %[0|8],?_⟩;unfold er;rw [if_pos e];omega
 ·refine List.mem_map.mpr ⟨(ms.getD o.1.toNat 0 - 1 - x).toNat,List.mem_range.mpr %[0|8],?_⟩;unfold er;rw [if_neg e];omega
def Ck{ms z:List Int}(hz:InR ms z):∀ os:%[0|48],(∀ o∈os,0<=o.1/\o.1 < (ms.length:Int))->BP ms.length z os∈aF ms os:=by
 refine ff ?_ ?_
 ·intro _;exact Rg.mpr rfl
 ·intro os o ih ho;have aS:=ho o (RG _ (Rg.mpr rfl));have:=hz.getD (a:=o.1.toNat) %[0|8];rw [gF,qh];exact S1.mpr ⟨_,ih λ p hp=>ho p (RB _ hp),Rj.mpr ⟨_,GD this.1 this.2,rfl⟩⟩
def CF(n:Nat)(z:List Int)(b:Nat)(hb:b < n):∀ os:%[0|48],(BP n z os).length=n/\((∃ o∈os,o.1.toNat=b)->(BP n z os).getD b 0=z.getD b 0):=by
 refine ff ?_ ?_
 ·exact⟨by unfold BP;rw [List.foldl_nil,length_replicate],λ ⟨o,ho,_⟩=>by cases ho⟩
 ·intro os o ⟨il,ih⟩;rw [qh];refine⟨by rw [Th,il],λ ⟨p,hp,e⟩=>?_⟩;rw [dn]
  by_cases hob:o.1.toNat=b
  ·rw [RP ⟨hob,by rw [il];omega⟩,hob]
  ·rw [RH λ z=>hob z.1]
   rcases RQ.mp hp with h|h
   ·exact ih ⟨p,h,e⟩
   ·rw [Rg.mp h] at e;exact absurd e hob
def nQ{ms z:List Int}{os:%[0|48]}(hz:InR ms z)(ho:i6 os ms.length):z∈aF ms os:=by
 have hb:∀ o∈os,0<=o.1/\o.1 < (ms.length:Int):=λ o h=>by
  have:=ho.2.1.mem_iff.mp (Rj.mpr ⟨o,h,rfl⟩);obtain⟨i,hi,e⟩:=Rj.mp this;have:=RO.mp hi;omega
 have e:BP ms.length z os=z:=by
  refine List.ext_getElem? λ b=>?_
  by_cases hbl:b < ms.length
  ·obtain⟨l,g⟩:=CF ms.length z b hbl os
   have aS:∃ o∈os,o.1.toNat=b:=by
    have:=ho.2.1.mem_iff.mpr (Rj.mpr ⟨b,RO.mpr hbl,rfl⟩);obtain⟨o,h,e⟩:=Rj.mp this;exact⟨o,h,by omega⟩
   have:=g aS;rw [RU,RU,Rb %[0|8],Rb (by rw [hz.len];omega)] at this;rw [Rb %[0|8],Rb (by rw [hz.len];omega)];exact SA some this
  ·have aX:=hz.len
   have a3:(BP ms.length z os).length=ms.length:=by
    have:∀ (os:%[0|48]) (pl:List Int),(os.foldl (λ pl o=>pl.set o.1.toNat (z.getD o.1.toNat 0)) pl).length=pl.length:=by
     intro os
     induction os with
     | nil=>intro pl;rfl
     | cons o os ih=>intro pl;rw [Tj,ih,Th]
    unfold BP;rw [this,length_replicate]
   rw [SK %[0|8],SK %[0|8]]
 rw [←e];exact Ck hz os hb
def i6.toP{os:%[0|48]}{n:Nat}(h:i6 os n):xk n os:=by
 refine⟨λ o ho=>⟨?_,h.2.2 o ho⟩,?_⟩
 ·have:=h.2.1.mem_iff.mp (Rj.mpr ⟨o,ho,rfl⟩);obtain⟨i,hi,e⟩:=Rj.mp this;have:=RO.mp hi;omega
 ·refine h.2.1.nodup_iff.mpr ?_;unfold List.Nodup;rw [List.pairwise_map];exact List.nodup_range.imp λ h e=>h %[0|8]
def jw{α:Type}(W R:α->Int)(L:List α):%[0|48]:=L.foldl (λ kv n=>kv++[(W n,(bF kv (R n)).getD (R n))]) []
def kH{α:Type}(W R:α->Int)(L:List α)(n:α):jw W R (L++[n])=jw W R L++[(W n,(bF (jw W R L) (R n)).getD (R n))]:=by
 unfold jw;rw [foldl_append];rfl
def eO{α:Type}(W R:α->Int):∀ L:List α,(jw W R L).map (λ p=>p.1)=L.map W:=by
 refine ff rfl ?_;intro L n ih;rw [kH,SI,SI,ih];rfl
def mP{kv:%[0|48]}{c:Int}(h:∀ p∈kv,¬ p.1=c):bF kv c=none:=by
 unfold bF;rw [List.find?_eq_none.mpr λ p hp=>by simpa using h p hp];rfl
def mO{kv:%[0|48]}{c v:Int}(h:bF kv c=some v):(c,v)∈kv:=by
 unfold bF at h;obtain⟨p,hp,e⟩:=Option.map_eq_some_iff.mp h;have h1:=List.mem_of_find?_eq_some hp;have h2:=List.find?_some hp;have h3:p.1=c:=of_decide_eq_true h2;have:p=(c,v):=by rw [←h3,←e]
 rw [←this];exact h1
def AU{kv:%[0|48]}{c:Int}(h:∃ p∈kv,p.1=c):∃ v,bF kv c=some v:=by
 unfold bF
 cases hf:kv.find? λ p=>decide (p.1=c) with
 | none=>
  obtain⟨p,hp,e⟩:=h;have:=List.find?_eq_none.mp hf p hp;exact absurd (Rp e) this
 | some p=>exact⟨p.2,rfl⟩
def yq{α:Type}(W R:α->Int):∀ L:List α,(∀ x∈L,∀ y∈L,W x=W y->x=y)->L.Nodup->((∀ p∈jw W R L,∃ z∈L,p=(W z,R z)) ↔ L.Pairwise λ m n=>W m=R n->R m=W m):=by
 refine ff ?_ ?_
 ·intro _ _;exact⟨λ _=>.nil,λ _ p hp=>by cases hp⟩
 ·intro L n ih aS aX;have bb:n ∉ L:=λ h=>(Sm.mp aX).2.2 n h n (Rg.mpr rfl) rfl;have a5:=ih (λ x hx y hy=>aS x (RB _ hx) y (RB _ hy)) (Sm.mp aX).1;have a3:n∈L++[n]:=RG _ (Rg.mpr rfl)
  have key:∀ p∈jw W R L,∃ z∈L,p.1=W z:=λ p hp=>by
   have:p.1∈L.map W:=by rw [←eO W R L];exact Rj.mpr ⟨p,hp,rfl⟩
   obtain⟨z,hz,e⟩:=Rj.mp this;exact⟨z,hz,e.symm⟩
  have has:∀ z∈L,∃ p∈jw W R L,p.1=W z:=λ z hz=>by
   have:W z∈(jw W R L).map λ p=>p.1:=by rw [eO W R L];exact Rj.mpr ⟨z,hz,rfl⟩
   obtain⟨p,hp,e⟩:=Rj.mp this;exact⟨p,hp,e⟩
  rw [kH,List.pairwise_append,←a5];constructor
  ·intro h
   have hL:∀ p∈jw W R L,∃ z∈L,p=(W z,R z):=λ p hp=>by
    obtain⟨z,hz,e⟩:=h p (RB _ hp);obtain⟨z0,a4,e0⟩:=key p hp;have:z=z0:=aS z hz z0 (RB _ a4) (by rw [←e0,e]);exact⟨z,by rw [this];exact a4,e⟩
   refine⟨hL,UJ _ _,λ m hm n' a6 hw=>?_⟩;rw [Rg.mp a6] at hw;obtain⟨z,hz,e⟩:=h _ (RG _ (Rg.mpr rfl));have a7:n=z:=aS n a3 z hz (SA Prod.fst e)
   have e2:(bF (jw W R L) (R n)).getD (R n)=R n:=by
    have:=SA Prod.snd e;rw [←a7] at this;exact this
   obtain⟨v,hv⟩:=AU (c:=R n) (by obtain⟨p,hp,e⟩:=has m hm;exact⟨p,hp,by rw [e,hw]⟩);rw [hv] at e2;have e3:v=R n:=e2;obtain⟨z',a8,e'⟩:=hL _ (mO hv);have a9:z'=m:=aS z' (RB _ a8) m (RB _ hm) (by rw [hw];exact(SA Prod.fst e').symm);have:v=R z':=SA Prod.snd e';rw [a9] at this;omega
  ·rintro ⟨hL,_,hx⟩ p hp
   rcases RQ.mp hp with hp|hp
   ·obtain⟨z,hz,e⟩:=hL p hp;exact⟨z,RB _ hz,e⟩
   ·refine⟨n,a3,?_⟩;rw [Rg.mp hp]
    have:(bF (jw W R L) (R n)).getD (R n)=R n:=by
     cases hv:bF (jw W R L) (R n) with
     | none=>rfl
     | some v=>
      obtain⟨m,hm,e'⟩:=hL _ (mO hv);have h1:R n=W m:=SA Prod.fst e';have h2:v=R m:=SA Prod.snd e';have h3:=hx m hm n (Rg.mpr rfl) h1.symm
      show v=R n
      omega
    rw [this]
def Ff{α:Type}{r:α->α->Prop}:∀ {l:List α}{a b:α},l.Pairwise r->a∈l->b∈l->¬ a=b->r a b\/r b a
 | [],_,_,_,h,_,_=>by cases h
 | x::l,a,b,hp,ha,hb,hne=>by
  obtain⟨h1,h2⟩:=List.pairwise_cons.mp hp
  rcases Rz.mp ha with e|ha'
  ·rcases Rz.mp hb with e'|hb'
   ·exact absurd (e.trans e'.symm) hne
   ·exact .inl (by rw [e];exact h1 b hb')
  ·rcases Rz.mp hb with e'|hb'
   ·exact .inr (by rw [e'];exact h1 a ha')
   ·exact Ff h2 ha' hb' hne
def kS{ws rs:List Int}{n i j:Nat}(aS:ws.Nodup):(i,j)∈aP ws rs n ↔ j < n/\∃ c,rs[j]? = some c/\ws[i]? = some c/\¬ rs[i]? = some c:=by
 unfold aP;rw [List.mem_flatMap];constructor
 ·rintro ⟨j',aX,h⟩;unfold cG at h
  cases hc:rs[j']? with
  | none=>rw [hc] at h;cases h
  | some c=>
   rw [hc] at h;have h':(i,j)∈(match ws.findIdx? (λ x=>decide (x=c)) with|some i=>if rs[i]? = some c then [] else [(i,j')]|none=>[]):=h
   cases hf:ws.findIdx? (λ x=>decide (x=c)) with
   | none=>rw [hf] at h';cases h'
   | some i'=>
    rw [hf] at h';have h2:(i,j)∈(if rs[i']? = some c then [] else [(i',j')]):=h';rw [SD] at hf;split at h2
    ·cases h2
    ·rename_i hr;have:=Rg.mp h2;cases this;obtain⟨hi,he,_⟩:=hf;exact⟨RO.mp aX,c,hc,by rw [Rb hi,RW he],hr⟩
 ·rintro ⟨hj,c,hc,hw,hr⟩;refine⟨j,List.mem_range.mpr hj,?_⟩;unfold cG;rw [hc]
  show (i,j)∈(match ws.findIdx? (λ x=>decide (x=c)) with|some i=>if rs[i]? = some c then [] else [(i,j)]|none=>[])
  rw [sP aS hw]
  show (i,j)∈(if rs[i]? = some c then [] else [(i,j)])
  rw [RH hr];exact Rg.mpr rfl
def ay(ms ws:List Int)(z:List Int):Int:=ws.getD (dQ ms z).toNat 0
def j6(ms ws rs:List Int)(os:%[0|48]):Bool:=(aP ws rs rs.length).all λ p=>crB os (aj ms (p.1:Int)) (aj ms (p.2:Int))
def aO{ms ws z:List Int}(hs:∀ n∈ms,1<=n/\n<=1000000000)(hw:(ws.length:Int)=ae ms)(hz:InR ms z):ws[(dQ ms z).toNat]? = some (ay ms ws z):=by
 have:=eZ ms z hs hz;unfold ay;rw [getD_eq_getElem?_getD,getElem?_eq_getElem %[0|8]];rfl
def k9{ms ws:List Int}(hs:∀ n∈ms,1<=n/\n<=1000000000)(hw:(ws.length:Int)=ae ms)(aS:ws.Nodup){x y:List Int}(hx:InR ms x)(hy:InR ms y)(e:ay ms ws x=ay ms ws y):x=y:=by
 have a:=aO hs hw hx;have b:=aO hs hw hy;rw [←e] at b;obtain⟨a1,a2⟩:=Rf.mp a;obtain⟨b1,b2⟩:=Rf.mp b;have:=(Uj aS).mp (a2.trans b2.symm);have n1:=(eZ ms x hs hx).1;have n2:=(eZ ms y hs hy).1;have:dQ ms x=dQ ms y:=by omega
 rw [←dG ms x hs hx,this,dG ms y hs hy]
def jc{ms:List Int}{os:%[0|48]}(h:xk ms.length os):(aF ms os).Nodup:=by
 refine(lq ms os h).1.imp λ {x y} aS e=>?_;rw [e,yS] at aS;cases aS
def uR{ms ws rs:List Int}{os:%[0|48]}(hs:∀ n∈ms,1<=n/\n<=1000000000)(hw:(ws.length:Int)=ae ms)(hr:(rs.length:Int)=ae ms)(aX:ws.Nodup)(ho:i6 os ms.length)(aS:∀ z∈aF ms os,InR ms z):((∀ p∈jw (ay ms ws) (ay ms rs) (aF ms os),∃ z∈aF ms os,p=(ay ms ws z,ay ms rs z)) ↔ j6 ms ws rs os=true):=by
 have hP:=ho.toP;have a3:=(lq ms os hP).1;rw [yq _ _ _ (λ x hx y hy e=>k9 hs hw aX (aS x hx) (aS y hy) e) (jc hP)];unfold j6;rw [all_eq_true];constructor
 ·intro a7 p hp;obtain⟨i,j⟩:=p;obtain⟨hj,c,a8,a4,a9⟩:=(kS aX).mp hp;have bb:i < ws.length:=(Rf.mp a4).1;have zi:InR ms (aj ms (i:Int)):=InR.split ms i hs;have zj:InR ms (aj ms (j:Int)):=InR.split ms j hs;have ni:dQ ms (aj ms (i:Int))=(i:Int):=by rw [eQ ms i λ n hn=>(hs n hn).1];exact S9 %[0|8] %[0|8]
  have nj:dQ ms (aj ms (j:Int))=(j:Int):=by rw [eQ ms j λ n hn=>(hs n hn).1];exact S9 %[0|8] %[0|8]
  have wi:ay ms ws (aj ms (i:Int))=c:=by
   have:=aO hs hw zi;rw [ni,Rt,a4] at this;exact(RE this).symm
  have rj:ay ms rs (aj ms (j:Int))=c:=by
   have:=aO hs hr zj;rw [nj,Rt,a8] at this;exact(RE this).symm
  have ri:¬ ay ms rs (aj ms (i:Int))=c:=λ e=>by
   have:=aO hs hr zi;rw [ni,Rt,e] at this;exact a9 this
  rcases Ff (a3.and a7) (nQ zi ho) (nQ zj ho) (λ e=>ri (by rw [e,rj])) with h|h
  ·exact absurd ((h.2 (by rw [wi,rj])).trans wi) ri
  ·exact h.1
 ·intro a5;refine a3.imp_of_mem λ {m n} hm hn a6 e=>?_;have zm:=aS m hm;have zn:=aS n hn
  by_cases hre:ay ms rs m=ay ms ws m
  ·exact hre
  ·have nm:=eZ ms m hs zm;have nn:=eZ ms n hs zn;have hp:((dQ ms m).toNat,(dQ ms n).toNat)∈aP ws rs rs.length:=(kS aX).mpr ⟨by omega,ay ms ws m,by rw [e];exact aO hs hr zn,aO hs hw zm,λ z=>by rw [aO hs hr zm] at z;exact hre (RE z)⟩;have h1:=a5 _ hp;have h2:crB os (aj ms (((dQ ms m).toNat:Nat):Int)) (aj ms (((dQ ms n).toNat:Nat):Int))=true:=h1;rw [Sb nm.1,Sb nn.1,dG ms m hs zm,dG ms n hs zn] at h2;rw [uY h2] at a6;cases a6
abbrev PP:=List Int × List Int
def NA(d:Int)(ns:List Int)(M:Int):Prop:=(ns=[]/\M=d)\/(M∈ns/\∀ a∈ns,M<=a)
def Cb(d:Int)(ns:List Int)(M:Int):Prop:=(ns=[]/\M=d)\/(M∈ns/\∀ a∈ns,a<=M)
def nz(Z:List PP)(a:Nat):List Int:=Z.map λ z=>bq z.1 z.2 a
def Cc(Z:List PP)(a:Nat)(w:Int):Prop:=(w=1\/w=-1)/\(∀ z∈Z,0<=bq z.1 z.2 a * w)/\∃ z∈Z,¬ bq z.1 z.2 a=0
def Gw(Z:List PP)(a:Nat):Prop:=(∀ z∈Z,bq z.1 z.2 a=0)\/((∃ z∈Z,bq z.1 z.2 a < 0)/\∃ z∈Z,0 < bq z.1 z.2 a)
def fg{Z:List PP}{a:Nat}{z:PP}(h:z∈Z):bq z.1 z.2 a∈nz Z a:=Rj.mpr ⟨z,h,rfl⟩
def Em{Z:List PP}{a:Nat}{lo hi:Int}(hl:NA 0 (nz Z a) lo)(hh:Cb 0 (nz Z a) hi)(h1:0<=lo)(h2:0 < hi):Cc Z a 1:=by
 refine⟨.inl rfl,λ z hz=>?_,?_⟩
 ·rcases hl with ⟨e,_⟩|⟨_,h⟩
  ·have:=fg (a:=a) hz;rw [e] at this;cases this
  ·have:=h _ (fg (a:=a) hz);omega
 ·rcases hh with ⟨_,e⟩|⟨h,_⟩
  ·omega
  ·obtain⟨z,hz,e⟩:=Rj.mp h;exact⟨z,hz,by omega⟩
def En{Z:List PP}{a:Nat}{lo hi:Int}(hl:NA 0 (nz Z a) lo)(hh:Cb 0 (nz Z a) hi)(h1:hi<=0)(h2:lo < 0):Cc Z a (-1):=by
 refine⟨.inr rfl,λ z hz=>?_,?_⟩
 ·rcases hh with ⟨e,_⟩|⟨_,h⟩
  ·have:=fg (a:=a) hz;rw [e] at this;cases this
  ·have:=h _ (fg (a:=a) hz);omega
 ·rcases hl with ⟨_,e⟩|⟨h,_⟩
  ·omega
  ·obtain⟨z,hz,e⟩:=Rj.mp h;exact⟨z,hz,by omega⟩
def Jl{Z:List PP}{a:Nat}{lo hi:Int}(hl:NA 0 (nz Z a) lo)(hh:Cb 0 (nz Z a) hi)(h1:¬ (0<=lo/\0 < hi))(h2:¬ (hi<=0/\lo < 0)):Gw Z a:=by
 rcases hl with ⟨e,_⟩|⟨m1,l1⟩
 ·left;intro z hz;have:=fg (a:=a) hz;rw [e] at this;cases this
 ·rcases hh with ⟨e,_⟩|⟨m2,l2⟩
  ·rw [e] at m1;cases m1
  ·by_cases h:lo < 0
   ·right;obtain⟨z,hz,e⟩:=Rj.mp m1;obtain⟨z',aS,e'⟩:=Rj.mp m2;exact⟨⟨z,hz,by omega⟩,z',aS,by omega⟩
   ·left;intro z hz;have:=l1 _ (fg (a:=a) hz);have:=l2 _ (fg (a:=a) hz);omega
structure LoI(n:Nat)(P L:List PP)(os:%[0|48]):Prop where
 ord:xk n os
 sub:∀ z∈L,z∈P
 zer:∀ z∈L,∀ o∈os,bq z.1 z.2 o.1.toNat=0
 crr:∀ z∈P,z∈L\/crB os z.1 z.2=true
def LoI.init(n:Nat)(P:List PP):LoI n P P []:=⟨⟨(λ o h=>by cases h),TM⟩,λ _ h=>h,(λ _ _ o h=>by cases h),λ _ h=>.inl h⟩
def LoI.step{n:Nat}{P L:List PP}{os:%[0|48]}{a:Nat}{w:Int}(h:LoI n P L os)(hh:Cc L a w)(ha:a < n):LoI n P (L.filter λ z=>decide (bq z.1 z.2 a=0)) (os++[((a:Int),w)])/\(L.filter λ z=>decide (bq z.1 z.2 a=0)).length < L.length:=by
 obtain⟨hw,h0,z1,aS,aX⟩:=hh;have a3:∀ o∈os,¬ o.1=(a:Int):=λ o ho e=>aX (by have:=h.zer z1 aS o ho;rw [e,Rt] at this;exact this);refine⟨⟨⟨λ o ho=>?_,?_⟩,λ z hz=>h.sub z (Sl.mp hz).1,λ z hz o ho=>?_,λ z hz=>?_⟩,?_⟩
 ·rcases RQ.mp ho with ho|ho
  ·exact h.ord.1 o ho
  ·rw [Rg.mp ho];exact⟨⟨by show (0:Int)<=(a:Int);omega,by show (a:Int) < (n:Int);omega⟩,hw⟩
 ·rw [SI];refine Sm.mpr ⟨h.ord.2,UJ _ _,λ x hx y hy e=>?_⟩;obtain⟨o,ho,e1⟩:=Rj.mp hx;have a4:y=(a:Int):=Rg.mp hy;exact a3 o ho (by rw [e1,e,a4])
 ·obtain⟨hz,hg⟩:=Sl.mp hz
  rcases RQ.mp ho with ho|ho
  ·exact h.zer z hz o ho
  ·rw [Rg.mp ho]
   show bq z.1 z.2 ((a:Int)).toNat=0
   rw [Rt];exact RW hg
 ·rcases h.crr z hz with hL|hc
  ·by_cases hg:bq z.1 z.2 a=0
   ·exact .inl (Sl.mpr ⟨hL,Rp hg⟩)
   ·right;rw [oE (h.zer z hL),dq (by show ¬ bq z.1 z.2 ((a:Int)).toNat=0;rw [Rt];exact hg)]
    show decide (0 < bq z.1 z.2 ((a:Int)).toNat * w)=true
    rw [Rt];refine Rp ?_;have:=h0 z hL
    rcases hw with rfl|rfl<;>omega
  ·exact .inr (nN hc)
 ·refine Nat.lt_of_le_of_ne (Uh _ _) λ e=>?_;have:=List.length_filter_eq_length_iff.mp e z1 aS;exact aX (RW this)
def iP{α:Type}[DecidableEq α]:∀ {l1 l2:List α},l1.Nodup->l2.Nodup->(∀ a,a∈l1 ↔ a∈l2)->l1.Perm l2
 | [],l2,_,_,h=>by
  cases l2 with
  | nil=>exact .nil
  | cons b r=>exact absurd ((h b).mpr Rr) (by simp)
 | a::l,l2,h1,h2,h=>by
  obtain⟨n1,n2⟩:=SY.mp h1;have ha:a∈l2:=(h a).mp Rr;refine(List.Perm.cons a (iP n2 (h2.erase a) λ b=>?_)).trans (List.perm_cons_erase ha).symm;rw [h2.mem_erase_iff];constructor
  ·intro hb;exact⟨λ e=>n1 (e ▸ hb),(h b).mp (Ro _ hb)⟩
  ·rintro ⟨aS,hb⟩
   rcases Rz.mp ((h b).mpr hb) with e|e
   ·exact absurd e aS
   ·exact e
def jF(n:Nat)(os:%[0|48]):%[0|48]:=(((List.range n).map λ (i:Nat)=>(i:Int)).filter λ a=>decide (¬ a∈os.map λ o=>o.1)).map λ a=>(a,1)
def mS(n:Nat):((List.range n).map λ (i:Nat)=>(i:Int)).Nodup:=by
 unfold List.Nodup;rw [List.pairwise_map];exact List.nodup_range.imp λ h e=>h %[0|8]
def xk.full{n:Nat}{os:%[0|48]}(h:xk n os):i6 (os++jF n os) n:=by
 have hp:((os++jF n os).map λ o=>o.1).Perm ((List.range n).map λ (i:Nat)=>(i:Int)):=by
  refine iP ?_ (mS n) λ a=>?_
  ·rw [SI];refine Sm.mpr ⟨h.2,?_,λ x hx y hy e=>?_⟩
   ·unfold jF;rw [map_map];have:((λ o:Int × Int=>o.1) ∘ λ a:Int=>(a,(1:Int)))=id:=rfl;rw [this,List.map_id];exact(mS n).filter _
   ·obtain⟨o,ho,rfl⟩:=List.mem_map.mp hy;unfold jF at ho;obtain⟨a,ha,rfl⟩:=List.mem_map.mp ho;have:=of_decide_eq_true (List.mem_filter.mp ha).2;exact this (by have e':x=a:=e;rw [←e'];exact hx)
  ·constructor
   ·intro ha;obtain⟨o,ho,rfl⟩:=Rj.mp ha
    rcases RQ.mp ho with ho|ho
    ·have:=(h.1 o ho).1;exact Rj.mpr ⟨o.1.toNat,RO.mpr %[0|8],by omega⟩
    ·unfold jF at ho;obtain⟨b,hb,rfl⟩:=List.mem_map.mp ho;exact(List.mem_filter.mp hb).1
   ·intro ha
    by_cases hm:a∈os.map λ o=>o.1
    ·obtain⟨o,ho,e⟩:=Rj.mp hm;exact Rj.mpr ⟨o,RB _ ho,e⟩
    ·refine List.mem_map.mpr ⟨(a,1),mem_append_right _ ?_,rfl⟩;unfold jF;exact List.mem_map.mpr ⟨a,List.mem_filter.mpr ⟨ha,decide_eq_true hm⟩,rfl⟩
 refine⟨?_,hp,λ o ho=>?_⟩
 ·have:=hp.length_eq;rw [Rh,Rh,RL] at this;exact this
 ·rcases RQ.mp ho with ho|ho
  ·exact(h.1 o ho).2
  ·unfold jF at ho;obtain⟨a,_,rfl⟩:=List.mem_map.mp ho;exact .inl rfl
def uQ:∀ {ws rs:List Int}{i:Nat}{c v:Int},ws.Nodup->ws[i]? = some c->rs[i]? = some v->bF (ws.zip rs) c=some v
 | [],_,_,_,_,_,h,_=>by simp at h
 | _::_,[],_,_,_,_,_,h=>by simp at h
 | w::ws,r::rs,0,c,v,hn,h1,h2=>by
  cases h1;cases h2;rw [TU];exact kU rfl
 | w::ws,r::rs,i+1,c,v,hn,h1,h2=>by
  have aS:ws[i]? = some c:=by simpa using h1
  obtain⟨n1,n2⟩:=SY.mp hn;rw [TU,kW (λ e=>n1 (by have e':w=c:=e;rw [e'];exact Rx aS))];exact uQ n2 aS (by simpa using h2)
def EC{ms ws rs:List Int}{os:%[0|48]}(hs:∀ n∈ms,1<=n/\n<=1000000000)(hw:(ws.length:Int)=ae ms)(hr:(rs.length:Int)=ae ms)(aX:ws.Nodup)(ho:i6 os ms.length)(aS:∀ z∈aF ms os,InR ms z)(hl:(aF ms os).length=ws.length):J2 (jw (ay ms ws) (ay ms rs) (aF ms os)) (ws.zip rs)=j6 ms ws rs os:=by
 have hk:=uR hs hw hr aX ho aS
 have e1:(jw (ay ms ws) (ay ms rs) (aF ms os)).length=(ws.zip rs).length:=by
  have:=SA List.length (eO (ay ms ws) (ay ms rs) (aF ms os));rw [Rh,Rh] at this;rw [this,hl,Tb];omega
 have lk:∀ z∈aF ms os,bF (ws.zip rs) (ay ms ws z)=some (ay ms rs z):=λ z hz=>uQ aX (aO hs hw (aS z hz)) (aO hs hr (aS z hz))
 have e2:((jw (ay ms ws) (ay ms rs) (aF ms os)).all λ p=>bF (ws.zip rs) p.1 == some p.2)=true ↔ ∀ p∈jw (ay ms ws) (ay ms rs) (aF ms os),∃ z∈aF ms os,p=(ay ms ws z,ay ms rs z):=by
  rw [Sr];constructor
  ·intro h p hp;have hm:p.1∈(aF ms os).map (ay ms ws):=by rw [←eO (ay ms ws) (ay ms rs)];exact Rj.mpr ⟨p,hp,rfl⟩
   obtain⟨z,hz,e⟩:=Rj.mp hm;have h2:=eq_of_beq (h p hp);rw [←e,lk z hz] at h2;refine⟨z,hz,?_⟩;rw [e,RE h2]
  ·intro h p hp;obtain⟨z,hz,rfl⟩:=h p hp;rw [lk z hz];exact UN _
 unfold J2;rw [e1,beq_self_eq_true,Bool.true_and];apply Bool.eq_iff_iff.mpr;rw [e2,hk]
def zz{ws rs:List Int}{i:Nat}{c:Int}(hn:ws.Nodup)(hc:ws[i]? = some c):bF ((ws.zip rs).take i) c=none:=by
 refine mP λ p hp e=>?_;obtain⟨j,hj⟩:=Sw.mp hp;rw [Vo] at hj;split at hj
 ·rename_i aS;have h1:=(Sa.mp hj).1;rw [e] at h1;obtain⟨a1,a2⟩:=Rf.mp h1;obtain⟨b1,b2⟩:=Rf.mp hc;have:=(Uj hn).mp (a2.trans b2.symm);omega
 ·cases hj
def zL{α:Type}{W R:α->Int}{L:List α}{i:Nat}{z:α}(aS:∀ x∈L,∀ y∈L,W x=W y->x=y)(hn:L.Nodup)(hz:L[i]? = some z):bF (jw W R (L.take i)) (W z)=none:=by
 refine mP λ p hp e=>?_;have hm:p.1∈(L.take i).map W:=by rw [←eO W R];exact Rj.mpr ⟨p,hp,rfl⟩
 obtain⟨x,hx,ex⟩:=Rj.mp hm;obtain⟨j,hj⟩:=Sw.mp hx;rw [Vo] at hj;split at hj
 ·rename_i a3;have aX:x=z:=aS x (Rx hj) z (Rx hz) (by rw [ex,e]);subst aX;obtain⟨a1,a2⟩:=Rf.mp hj;obtain⟨b1,b2⟩:=Rf.mp hz;have:=(Uj hn).mp (a2.trans b2.symm);omega
 ·cases hj
def nM{H:Hp}{f:V->Option PyData}{p:Addr}{z:List Int}(h:H p=some (.tup (z.map V.int))):dh H (dh H f) (.ref p)=some (.tuple (z.map PyData.int)):=by
 rw [gL,h]
 show xi (dh H f) (.tup (z.map V.int))=_
 rw [gJ,gv];rfl
def jV(a b:List Int):PyData.eqv (.tuple (a.map PyData.int)) (.tuple (b.map PyData.int))=decide (a=b):=by rw [eR,dM]
def PrV(H:Hp)(z:List Int × List Int)(y:V):Prop:=∃ q u v,y=.ref q/\H q=some (.tup [.ref u,.ref v])/\H u=some (.tup (z.1.map V.int))/\H v=some (.tup (z.2.map V.int))
def PrV.ext{H H':Hp}{z:List Int × List Int}{y:V}(h:PrV H z y)(e:Ext H H'):PrV H' z y:=by
 obtain⟨q,u,v,h1,h2,h3,h4⟩:=h;exact⟨q,u,v,h1,e.at h2,e.at h3,e.at h4⟩
def PrV.upd{H:Hp}{z:List Int × List Int}{y:V}{r:Addr}{zs:List V}{o:HO}(h:PrV H z y)(hr:H r=some (.lst zs)):PrV (upd H r o) z y:=by
 obtain⟨q,u,v,h1,h2,h3,h4⟩:=h;exact⟨q,u,v,h1,by rw [ah (λ z=>by rw [z,hr] at h2;cases h2)];exact h2,by rw [ah (λ z=>by rw [z,hr] at h3;cases h3)];exact h3,by rw [ah (λ z=>by rw [z,hr] at h4;cases h4)];exact h4⟩
def prD(z:List Int × List Int):PyData:=.tuple [.tuple (z.1.map PyData.int),.tuple (z.2.map PyData.int)]
def ja{H:Hp}{f:V->Option PyData}:∀ {zs:List (List Int × List Int)}{ys:List V},Al (PrV H) zs ys->ba (ys.map (dh H (dh H (dh H f))))=some (zs.map prD)
 | [],ys,h=>by rw [Sf h.1];rfl
 | z::zs,[],h=>by have:=h.1;simp at this
 | z::zs,y::ys,h=>by
  obtain⟨q,u,v,rfl,hq,hu,hv⟩:=h.2 0 z y rfl rfl;have ih:=ja (H:=H) (f:=f) (zs:=zs) (ys:=ys) ⟨by have:=h.1;simpa using this,λ i z y a b=>h.2 (i+1) z y (by simpa using a) (by simpa using b)⟩
  have e1:dh H (dh H (dh H f)) (.ref q)=some (prD z):=by
   rw [gL,hq]
   show xi (dh H (dh H f)) (.tup [.ref u,.ref v])=_
   rw [gJ]
   show (ba [dh H (dh H f) (.ref u),dh H (dh H f) (.ref v)]).map PyData.tuple=_
   rw [nM hu,nM hv];rfl
  rw [Sh,e1,ml,ih];rfl
def yv:∀ zs:List (List Int × List Int),PyData.eqvAll (zs.map prD) (zs.map prD)=true
 | []=>by rw [Vg,cK]
 | z::zs=>by
  have e:PyData.eqv (prD z) (prD z)=true:=by
   unfold prD;rw [eR,bL,bL,cK,jV,jV];simp
  rw [Sh,bL,e,yv zs];rfl
def rO(ms:List Int)(z:Nat × Nat):List Int × List Int:=(aj ms (z.1:Int),aj ms (z.2:Int))
def xY{H:Hp}{ms:List Int}{ys:List V}{i:Nat}{y:V}(al:Al (bE H) (bB ms) ys)(h:ys[i]? = some y):∃ q,y=.ref q/\H q=some (.tup ((aj ms (i:Int)).map V.int)):=by
 obtain⟨z,hz,q,hq,aS⟩:=cL al h;unfold bB at hz;rw [getElem?_map] at hz;obtain⟨k,hk,rfl⟩:=Option.map_eq_some_iff.mp hz
 have:k=i:=by
  have hi:=(Rf.mp hk).1;rw [Rb hi] at hk;have:=RE hk;rw [Vn] at this;exact this.symm
 subst this;exact⟨q,hq,aS⟩
def nJ{H:Hp}{ms:List Int}{ys zs:List V}{L:List (Nat × Nat)}(al:Al (bE H) (bB ms) ys)(aS:Al (iZ H ys) L zs):Al (PrV H) (L.map (rO ms)) zs:=by
 refine⟨by rw [aS.1,Rh],λ k z y hz hy=>?_⟩;rw [Rq] at hz;obtain⟨ij,hk,rfl⟩:=Rm.mp hz;obtain⟨q,u,v,rfl,hq,hu,hv⟩:=aS.2 k ij y hk hy;obtain⟨a,rfl,ha⟩:=xY al hu;obtain⟨b,rfl,hb⟩:=xY al hv;exact⟨q,a,b,rfl,hq,ha,hb⟩
def zY{ws rs:List Int}{j:Nat}:∀ z∈cG ws rs j,z.1 < ws.length/\z.2 < rs.length:=λ z hz=>by
 unfold cG at hz
 cases hj:rs[j]? with
 | none=>rw [hj] at hz;cases hz
 | some c=>
  rw [hj] at hz;have aS:z∈(match ws.findIdx? (λ x=>decide (x=c)) with|some i=>if rs[i]? = some c then [] else [(i,j)]|none=>[]):=hz
  cases hf:ws.findIdx? (λ x=>decide (x=c)) with
  | none=>rw [hf] at aS;cases aS
  | some i=>
   rw [hf] at aS;have aX:z∈(if rs[i]? = some c then [] else [(i,j)]):=aS;rw [SD] at hf;split at aX
   ·cases aX
   ·rw [Rg.mp aX];exact⟨hf.1,(Rf.mp hj).1⟩
def zW{ws rs:List Int}{n:Nat}:∀ z∈aP ws rs n,z.1 < ws.length/\z.2 < rs.length:=λ z hz=>by
 unfold aP at hz;obtain⟨j,_,h⟩:=List.mem_flatMap.mp hz;exact zY z h
def Ra(g:Int->Int):Prop:=∀ x y,g x=g y->x=y
def Na{α β:Type}{f:α->β}{R:β->V->Prop}{zs:List α}{ys:List V}(h:Al (λ z y=>R (f z) y) zs ys):Al R (zs.map f) ys:=by
 refine⟨by rw [h.1,Rh],λ i z y hz hy=>?_⟩;rw [Rq] at hz;obtain⟨a,ha,rfl⟩:=Rm.mp hz;exact h.2 i a y ha hy
def Fc{H:Hp}{ms:List Int}{ys:List V}{i:Nat}(al:Al (bE H) (bB ms) ys)(h:i < ys.length):∃ q,atI ys (i:Int)=%[q|45]/\H q=some (.tup ((aj ms (i:Int)).map V.int)):=by
 obtain⟨q,hq,aS⟩:=xY al (Rb h);exact⟨q,cI (by rw [Rb h,hq]),aS⟩
def PrV.len{ms:List Int}{L:List (Nat × Nat)}:∀ z∈L.map (rO ms),z.1.length=ms.length/\z.2.length=ms.length:=λ z hz=>by
 obtain⟨ij,_,rfl⟩:=Rj.mp hz
 show (aj ms _).length=_/\(aj ms _).length=_
 rw [bo,bo];exact⟨rfl,rfl⟩
def mQ(ms ws rs:List Int)(os:%[0|48]):(((aP ws rs rs.length).map (rO ms)).all λ z=>crB os z.1 z.2)=j6 ms ws rs os:=by
 rw [Vh];rfl
abbrev zx  (p:Addr) (a:Int) (H:Hp) (Q:VK) (E:XK):Prop:=∃ z:List Int × List Int,PrV H z (.ref p)/\0<=a/\a < (z.1.length:Int)/\z.2.length=z.1.length/\Q (.int (bq z.1 z.2 a.toNat)) H
def FP  : Sp:=λ vs H Q E=>∃ (p:Addr) (a:Int),vs=[.ref p,.int a]/\(zx  p a H Q E)
def g9  (p:Addr) (a:Int) (H:Hp) (Q:VK) (E:XK):FP  [.ref p,.int a] H Q E=(zx  p a H Q E):=iu (f:=λ (p:Addr) (a:Int)=>[.ref p,.int a]) (λ _ _ _ _ h=>by cases h;exact⟨rfl,rfl⟩) p a
def pP(T:Tx K mg t):%[1,V4|49] ["pair", "axis"] FP:=by
 refine T.F_V4.ok Pu (λ _ _ _ _ h=>iw h λ _ _=>rfl) %[0|50]
 ·obtain⟨p,a,rfl,z,⟨_,u,v,aS,hq,hu,hv⟩,a0,a1,hl,k⟩:=h;cases aS;refine⟨_,%[%[%[eL,%[cq,%[cq,%[0|0],%[0|2],(λ _ _=>rfl)|12],%[1|0],(λ _ _=>rfl)|12],%[cq,%[cq,%[0|0],%[0|2],(λ _ _=>rfl)|12],%[1|0],(λ _ _=>rfl)|12]|13]|11]|10],?_⟩;rw [show az ["pair", "axis"] [.ref p,.int a]=[%[p|45],%[a|47]] from rfl];have h1:=dC (vals:=z.1) a0 a1;have h2:=dC (vals:=z.2) a0 (by rw [hl];exact a1);unfold bq at k;ac_rfl
abbrev qW  (p:Addr) (q:Addr) (H:Hp) (Q:VK) (E:XK):Prop:=∃ (z:List Int × List Int) (os:%[0|48]) (n:Nat),PrV H z (.ref p)/\z.1.length=n/\z.2.length=n/\n<=8/\dc n H q os/\∀ H',Ext H H'->Q (.bl (crB os z.1 z.2)) H'
def sF  : Sp:=λ vs H Q E=>∃ (p:Addr) (q:Addr),vs=[.ref p,.ref q]/\(qW  p q H Q E)
def BG  (p:Addr) (q:Addr) (H:Hp) (Q:VK) (E:XK):sF  [.ref p,.ref q] H Q E=(qW  p q H Q E):=iu (f:=λ (p:Addr) (q:Addr)=>[.ref p,.ref q]) (λ _ _ _ _ h=>by cases h;exact⟨rfl,rfl⟩) p q
def mf(T:Tx K mg t):%[2,A4|49] ["pair", "order"] sF:=by
 have G_V4:=%[pP|44];refine T.F_A4.ok fL (λ _ _ _ _ h=>iw h λ _ _=>rfl) %[0|50]
 ·obtain⟨p,q,rfl,z,os,n,pz,l1,l2,n8,⟨⟨us,hu,al⟩,b1,aX⟩,k⟩:=h;refine⟨_,%[%[RA,rfl,%[%[1|0]|19],(%[(2),rfl,%[%[2,fL|5],%[%[3,fL|5],(@aK _),∅|16],∅|16],∅,∅|25].mono λ _ _ _ _ h=>bX h),%[%[%[(dk hr.units),%[V4,%[%[0|0],%[%[2|0]|1]|1]|3],%[0|2],(ar _)|15],%[%[%[ny,%[eM,%[V4,%[%[0|0],%[%[2|0]|1]|1]|3],%[3|0]|13],%[0|2],(ar _)|31]|11]|10],(@au _)|17]|10],(by intros;rfl)|21],%[%[(@dw _ _ _ _)|11]|10]|9],?_⟩;rw [show az ["pair", "order", "axis", "way"] [.ref p,.ref q]=[%[p|45],%[q|45],none,none] from rfl];clear G_V4;exists k;exists aX;ac_rfl;refine cw (xs:=us) (λ i σ H'=>∃ v2 v3:Option V,σ=[%[p|45],%[q|45],v2,v3]/\Ext H H'/\crB (os.drop i) z.1 z.2=crB os z.1 z.2) ⟨none,none,rfl,Ext.refl _,rfl⟩ (λ i σ H' _ ⟨_,_,_,e,_⟩=>e.at hu) ?_ ?_
  ·rintro i y _ H1 hi ⟨v2,v3,rfl,e1,hc⟩;have bt:i < os.length:=by have:=(Rf.mp hi).1;rw [al.1,Rh] at this;exact this
   obtain⟨o,aS⟩:∃ o,os[i]? = some o:=⟨_,Rb bt⟩;obtain⟨w',rfl,hw⟩:=al.2 i [o.1,o.2] y (by rw [Rq,aS];rfl) hi;have hb:=aX () o (Rx aS)
   have a4:os.drop i=o::os.drop (i+1):=by
    obtain⟨h,e⟩:=Rf.mp aS;rw [Tz h,e]
   have a5:=e1.at hw;have a3:=pz.ext e1;obtain⟨a,b⟩:=o;have a6:0<=a:=hb.1.1;have a7:a < (z.1.length:Int):=by rw [l1];exact hb.1.2
   have a8:z.2.length=z.1.length:=by omega
   have bS:H1 w'=some (.tup [.int a,.int b]):=a5;rw [a4] at hc;have hz:=λ (h:bq z.1 z.2 a.toNat=0)=>(dW (o:=(a,b)) (os:=os.drop (i+1)) (x:=z.1) (y:=z.2) h).symm.trans hc;have hs:=λ (h:¬ bq z.1 z.2 a.toNat=0)=>(dq (o:=(a,b)) (os:=os.drop (i+1)) (x:=z.1) (y:=z.2) h).symm.trans hc;have cb:b=1\/b=-1:=hb.2;have k1:=k () H1 e1;exists hz;exists hs;exists a3;clear hc a4 hw a5 aS hi hb k aX;simp! only [↓aD];rw [g9];refine⟨z,a3 (),a6,a7,a8,?_⟩;generalize hg:bq z.1 z.2 a.toNat=g at hz hs;have cm:pI g b:=.inr %[0|8]
   by_cases h0:g=0
   ·have a9:=hz () h0;exists a9;clear hz hs hg;ac_rfl;exact⟨_,_,rfl,e1,a9 ()⟩
   ·have bb:=hs () h0;rw [←bb] at k1;exists k1;exists hg;clear hz hs bb;ac_rfl;rw [g9];refine⟨z,a3 (),a6,a7,a8,?_⟩;rw [hg ()];have k2:Q (.bl (decide (0 < g * b))) H1:=k1 ();clear k1;ac_rfl
  ·rintro _ H1 ⟨v2,v3,rfl,e1,hc⟩;have bx:us.length=os.length:=by rw [al.1,Rh]
   rw [bx,VH] at hc;have k1:=k () H1 e1;rw [←hc] at k1;have k2:Q (.bl false) H1:=k1;clear k k1 hc;ac_rfl
abbrev qV(C:Addr)(u:Addr)(v:Addr)(q:Addr)(H:Hp)(Q:VK)(E:XK):Prop:=∃ (room f1 f2:Int) (A B:%[0|48]) (ms:List Int) (os:%[0|48]),aE C H u room f1 A/\aE C H v room f2 B/\fM A/\fM B/\(A.map λ a=>a.1)=ms/\(B.map λ a=>a.1)=ms/\ae ms<=4096/\(af f1 A).Nodup/\dc ms.length H q os/\(os.map λ o=>o.1).Nodup/\∀ H',Ext H H'->Q (.bl (j6 ms (af f1 A) (af f2 B) os)) H'
def sD(C:Addr):Sp:=λ vs H Q E=>∃ (u:Addr) (v:Addr) (q:Addr),vs=[.ref u,.ref v,.ref q]/\(qV C u v q H Q E)
def qI(C:Addr)(u:Addr)(v:Addr)(q:Addr)(H:Hp)(Q:VK)(E:XK):sD C [.ref u,.ref v,.ref q] H Q E=(qV C u v q H Q E):=xf (f:=λ (u:Addr) (v:Addr) (q:Addr)=>[.ref u,.ref v,.ref q]) (λ _ _ _ _ _ _ h=>by cases h;exact⟨rfl,rfl,rfl⟩) u v q
def Dg(T:Tx K mg t):%[8,VZ|49] ["to", "source", "order"] (sD t.a_V3):=by
 have G_wJ:=%[gx|44];have G_rD:=%[bC|44];have G_wK:=%[gy|44];have G_A8:=%[aZ|44];have G_A3:=%[cR|44];have G_A4:=%[mf|44];refine T.F_VZ.ok JF (λ _ _ _ _ h=>xg h λ _ _ _=>rfl) %[0|50]
 ·obtain⟨u,v,q,rfl,room,f1,f2,A,B,ms,os,vu,vv,hA,hB,m1,m2,cT,a6,lo,a7,k⟩:=h;obtain⟨dx,D,hu,_⟩:=vu.ob;have c1:=T.cl_View;have g1:=vn room f1 D (m := "sizes") nofun;refine⟨_,%[%[%[wJ,%[%[0|0],%[%[1|0]|1]|1]|3],∅|20],%[%[%[rD,%[%[0|0],%[%[1|0]|1]|1]|3],∅|20],%[%[%[wK,%[%[%[0|0],T.cl_View,T.mt_View_sizes,G_A8,(hr.mono ⋯),T.b_A8,.nil,aW,∅|23],%[%[2|0]|1]|1]|3],∅|20],%[%[%[all,(eS rfl),%[%[(["pair", "to", "source", "order"]),(1),(aC (aa nE) ["to", "source", "order"] rfl rfl nofun),rfl,%[%[A3,%[%[0|0],%[%[1|0]|1]|1]|3]|19],(λ _ _ _ _ _=>%[0,["pair", "to", "source", "order"]|51]),(λ _ _ _ _ _=>(@aG _)),(λ _ _ _ _ _=>%[A4,%[%[0|0],%[%[3|0]|1]|1]|3]),(by intros;rfl)|22]|1]|6]|11]|10]|9]|9]|9],?_⟩;rw [show az ["to", "source", "order"] [.ref u,.ref v,.ref q]=[%[u|45],%[v|45],%[q|45]] from rfl];clear G_wJ G_rD G_wK G_A8 G_A3 G_A4;have h8:ms.length<=8:=by rw [←m1,Rh];exact hA.1
  have n2:=aB f2 B λ b hb=>(hB.2 b hb).1;rw [m2] at n2;exists m1;exists m2;exists a6;exists a7;exists k;ac_rfl;rw [qG];refine⟨room,f1,f2,A,B,vu,vv,?_⟩;ac_rfl;rw [js];refine⟨room,room,f1,f2,A,B,vu,vv,hA.1,by rw [m1 (),m2 ()],λ H1 e1=>?_⟩;have bS:=e1.at hu;ac_rfl;rw [bA];refine⟨room,f1,A,vu.ext e1,hA.1,λ r2 H2 b1 e2 h2=>?_⟩;rw [m1 ()] at h2;have a3:=e1.trans e2;have a8:=lo.ext a3;clear b1 bS e1 e2;ac_rfl;rw [u3];refine⟨ms,os,h2,h8,a8,a7 (),λ H3 e3=>?_⟩;have aS:=a3.trans e3;clear e3 a3 a8 h2;ac_rfl;rw [iN];refine⟨room,f1,f2,A,B,vu.ext aS,vv.ext aS,hA,hB,by rw [m1 (),m2 ()],by rw [m1 ()];omega,a6 (),λ l r ys zs H4 e4 b2 b3 a4 b4 aX=>?_⟩;rw [m1 ()] at a4;have a9:=nJ a4 aX;have bb:=aS.trans e4;have b5:=lo.ext bb;have cb:=dt (af f1 A) (af f2 B) (af f2 B).length;have bt:=λ (_:Unit)=>mQ ms (af f1 A) (af f2 B) os;have a5:∀ z∈(aP (af f1 A) (af f2 B) (af f2 B).length).map (rO ms),z.1.length=ms.length/\z.2.length=ms.length:=PrV.len;have cf:((aP (af f1 A) (af f2 B) (af f2 B).length).map (rO ms)).length<=4096:=by rw [Rh];omega
  generalize (aP (af f1 A) (af f2 B) (af f2 B).length).map (rO ms)=Z at a9 bt a5 cf;exists a5;have wk:=dv (K:=K) (R:=λ z x H'=>PrV H' z x) (λ _ _ _ _ h e=>PrV.ext h e) b4 a9;clear b2 b3 a4 aX aS e4 cb;ac_rfl;refine aV Z (λ _=>true) (λ z=>.bl (crB os z.1 z.2)) (λ z x H'=>PrV H' z x) wk.1 wk.2 (ak %[0|8]) ?_ ?_
  ·intro D z y H' N1 N0 hz hD e hy k1 _;have cm:=hy;obtain⟨y',_,_,rfl,_⟩:=cm;have cF:=k1 rfl;have cS:=b5.ext e;have bx:=a5 () z hz;clear k1 k wk hz;simp! only [↓aL,↓aJ];rw [BG];exact⟨z,os,ms.length,hy,bx.1,bx.2,h8,cS,cF⟩
  ·intro D H5 hD e5 h5;rw [ix] at h5;have c0:H5 D=some (.lst ((Z.map λ z=>crB os z.1 z.2).map V.bl)):=by rw [h5,Se];rfl
   have ea:((Z.map λ z=>crB os z.1 z.2).all id)=j6 ms (af f1 A) (af f2 B) os:=by rw [←bt (),Vh];rfl
   have k':=k () H5 (bb.trans e5);clear k h5 wk;ac_rfl
def Bj{d:Int}{H:Hp}{Q:VK}{ns:List Int}(h:∀ M,NA d ns M->Q (.int M) H):yb d H Q ns:=⟨λ e=>h d (.inl ⟨e,rfl⟩),λ M hM hle=>h M (.inr ⟨hM,hle⟩)⟩
def Bk{d:Int}{H:Hp}{Q:VK}{ns:List Int}(h:∀ M,Cb d ns M->Q (.int M) H):yc d H Q ns:=⟨λ e=>h d (.inl ⟨e,rfl⟩),λ M hM hle=>h M (.inr ⟨hM,hle⟩)⟩
def rR(n:Nat)(Z:List PP):Prop:=∀ z∈Z,z.1.length=n/\z.2.length=n
def mF(n:Nat)(Z:List PP):Prop:=∀ a:Nat,a < n->Gw Z a
def KO(n:Nat)(L:List PP)(H:Hp)(x:V):Prop:=(x=.non/\mF n L)\/∃ (a:Nat) (w:Int) (q:Addr),x=.ref q/\H q=some (.tup [.int (a:Int),.int w])/\a < n/\Cc L a w
abbrev vq  (l:Addr) (n:Int) (H:Hp) (Q:VK) (E:XK):Prop:=∃ (Z:List PP) (zs:List V) (m:Nat),n=(m:Int)/\m<=8/\H l=some (.lst zs)/\Al (PrV H) Z zs/\Z.length<=4096/\rR m Z/\∀ (x:V) (H':Hp),Ext H H'->KO m Z H' x->Q x H'
def xN  : Sp:=λ vs H Q E=>∃ (l:Addr) (n:Int),vs=[.ref l,.int n]/\(vq  l n H Q E)
def u4  (l:Addr) (n:Int) (H:Hp) (Q:VK) (E:XK):xN  [.ref l,.int n] H Q E=(vq  l n H Q E):=iu (f:=λ (l:Addr) (n:Int)=>[.ref l,.int n]) (λ _ _ _ _ h=>by cases h;exact⟨rfl,rfl⟩) l n
def lQ(T:Tx K mg t):%[2,AX|49] ["pairs", "many"] xN:=by
 have G_V4:=%[pP|44];refine T.F_AX.ok bZ (λ _ _ _ _ h=>iw h λ _ _=>rfl) %[0|50]
 ·obtain⟨l,_,rfl,Z,zs,m,rfl,m8,hl,al,b3,a8,kk⟩:=h;refine⟨_,%[%[RA,rfl,%[∅,T.z_range,%[%[1|0]|1],∅|32],%[(2),_,bZ.nd,rfl,(Or.inr rfl),%[0|7]|14],%[%[(["pair", "pairs", "many", "axis", "gaps", "low", "high"]),(1),(3),_,bZ.nd,rfl,(Or.inl rfl),(aC (aa cQ) ["pairs", "many", "axis", "gaps", "low", "high"] rfl rfl nofun),rfl,%[%[0|0]|19],(λ _ _ _ _ _=>%[0,["pair", "pairs", "many", "axis", "gaps", "low", "high"]|51]),(λ _ _ _ _ _=>(@aG _)),(λ _ _ _ _ _=>%[V4,%[%[0|0],%[%[3|0]|1]|1]|3]),∅,(by intros;rfl),%[0|7]|40],%[%[4,bZ,(@qm _ ("min") _ _ _ _ _ _ _ _ _ _ (wO rfl) ∅ T.z_min nofun %[%[3|0]|1] (@yy _ _ _ _ _ _ _ %[0|2] (@Fg _)) ⋯ ⋯ ∅ ∅ ∅ ∅ ∅)|4],%[%[5,bZ,(@qm _ ("max") _ _ _ _ _ _ _ _ _ _ (wQ rfl) ∅ T.z_max nofun %[%[3|0]|1] (@yy _ _ _ _ _ _ _ %[0|2] (@Fg _)) ⋯ ⋯ ∅ ∅ ∅ ∅ ∅)|4],%[%[(PW.pt %[%[Km,%[4|0],%[0|2],(ar _)|15],(@i9 _ _ _ _ %[ny,%[5|0],%[0|2],(ar _)|15])|42]),%[%[%[%[%[2|0],%[%[0|2]|1]|1]|29]|11]|10],(@au _)|17],%[%[(PW.pt %[%[pJ,%[5|0],%[0|2],(ar _)|15],(@i9 _ _ _ _ %[vG,%[4|0],%[0|2],(ar _)|15])|42]),%[%[%[%[%[2|0],%[(@xo _ _ _ _ _ _ ki %[0|2])|1]|1]|29]|11]|10],(@au _)|17]|10]|9]|9]|9]|9],(by intros;rfl)|21],%[%[(@mz _ _ _)|11]|10]|9],?_⟩;rw [show az ["pairs", "many", "axis", "gaps", "low", "high"] [.ref l,.int (m:Int)]=[%[l|45],some (.int (m:Int)),none,none,none,none] from rfl];clear G_V4;exists kk;exists a8;ac_rfl;refine⟨by omega,by omega,?_⟩;refine gZ (λ i σ H'=>∃ v2 v3 v4 v5:Option V,σ=[%[l|45],some (.int (m:Int)),v2,v3,v4,v5]/\Ext H H'/\mF i Z) ⟨none,none,none,none,rfl,Ext.refl _,λ a h=>absurd h (TR _)⟩ ?_ ?_
  ·rintro i _ H1 hi ⟨v2,v3,v4,v5,rfl,e1,aS⟩;have a9:i < m:=by have:i < ((m:Int)).toNat:=hi;omega
   have bb:=e1.at hl;have bt:=al.imp λ _ _ t=>PrV.ext t e1;have wk:=dv (K:=K) (R:=λ z x H'=>PrV H' z x) (λ _ _ _ _ h e=>PrV.ext h e) bb bt;exists aS;clear hi bt;simp! only [↓aD];refine aV Z (λ _=>true) (λ z=>.int (bq z.1 z.2 i)) (λ z x H'=>PrV H' z x) wk.1 wk.2 (ak %[0|8]) ?_ ?_
   ·intro D z y H' N1 N0 hz hD e hy k1 _;have bS:=hy;obtain⟨y',_,_,rfl,_⟩:=bS;have b1:=k1 rfl H' (Ext.refl _);have b4:=a8 () z hz;clear k1 kk wk hz;simp! only [↓aL,↓aJ];rw [g9];refine⟨z,hy,by omega,by omega,by omega,?_⟩;rw [RZ,Rt];exact b1
   ·intro D H2 hD e2 h2;rw [ix] at h2;have a6:H2 D=some (.lst ((nz Z i).map V.int)):=by rw [h2];unfold nz;rw [map_map];rfl
    clear h2 wk hD bb;ac_rfl;refine Bj λ lo aX=>?_;ac_rfl;refine Bk λ a4 a3=>?_;have a5:=e1.trans e2
    by_cases ha:0<=lo/\0 < a4
    ·have hh:=Em aX a3 ha.1 ha.2;obtain⟨b5,cb⟩:=ha;exists hh;clear aX a3 a6;ac_rfl;intro r H3 b2 e3 h3;rw [RZ] at h3;exact kk () (.ref r) H3 (a5.trans e3) (.inr ⟨i,_,r,rfl,h3,a9,hh ()⟩)
    ·by_cases hb:a4<=0/\lo < 0
     ·have hh:=En aX a3 hb.1 hb.2;obtain⟨cf,cm⟩:=hb;have cF:¬ 0<=lo:=by omega
      exists hh;clear aX a3 a6 ha;ac_rfl;intro r H3 b2 e3 h3;rw [RZ] at h3;exact kk () (.ref r) H3 (a5.trans e3) (.inr ⟨i,_,r,rfl,h3,a9,hh ()⟩)
     ·have bx:=Jl aX a3 ha hb
      have a7:mF (i+1) Z:=λ a h=>by
       by_cases e:a=i
       ·rw [e];exact bx
       ·exact aS () a %[0|8]
      exists a7;clear aX a3 kk a6 bx
      by_cases q1:0<=lo
      ·have q2:¬ 0 < a4:=λ h=>ha ⟨q1,h⟩;have q3:¬ lo < 0:=by omega
       have q4:a4<=0:=by omega
       clear ha hb;ac_rfl;exact⟨_,_,_,_,rfl,a5,a7 ()⟩
      ·have q3:lo < 0:=by omega
       have q4:¬ a4<=0:=λ h=>hb ⟨h,q3⟩;clear ha hb;ac_rfl;exact⟨_,_,_,_,rfl,a5,a7 ()⟩
  ·rintro _ H1 ⟨v2,v3,v4,v5,rfl,e1,aS⟩;rw [Rt] at aS;have k':=kk () .non H1 e1 (.inl ⟨rfl,aS⟩);clear kk aS;ac_rfl
def yw(a b:PP):PyData.eqv (prD a) (prD b)=decide (a=b):=by
 unfold prD;rw [eR,bL,bL,cK,jV,jV,Bool.and_true];obtain⟨a1,a2⟩:=a;obtain⟨b1,b2⟩:=b
 by_cases h1:a1=b1
 ·by_cases h2:a2=b2
  ·simp [h1,h2]
  ·simp [h1,h2]
 ·simp [h1]
def yx(Y:List PP)(z:PP):((Y.map prD).any λ y=>PyData.eqv y (prD z))=decide (z∈Y):=by
 rw [List.any_map];apply SE.mpr;rw [TY,S8];constructor
 ·rintro ⟨y,hy,e⟩;have e':PyData.eqv (prD y) (prD z)=true:=e;rw [yw] at e';rw [←RW e'];exact hy
 ·intro h;exact⟨z,h,by show PyData.eqv (prD z) (prD z)=true;rw [yw];exact Rp rfl⟩
def Fx{H:Hp}{f:V->Option PyData}{z:PP}{y:V}(h:PrV H z y):dh H (dh H (dh H f)) y=some (prD z):=by
 obtain⟨q,u,v,rfl,hq,hu,hv⟩:=h;rw [gL,hq]
 show xi (dh H (dh H f)) (.tup [.ref u,.ref v])=_
 rw [gJ]
 show (ba [dh H (dh H f) (.ref u),dh H (dh H f) (.ref v)]).map PyData.tuple=_
 rw [nM hu,nM hv];rfl
def Ek(a:Int)(xs:List Int):inV (.int a) (xs.map V.int)=decide (a∈xs):=by
 unfold inV;rw [List.any_map];apply Bool.eq_iff_iff.mpr;rw [any_eq_true,decide_eq_true_eq];constructor
 ·rintro ⟨y,hy,e⟩;have e':eqV (.int y) (.int a)=true:=e;have:y=a:=by simpa [eqV] using e'
  rw [←this];exact hy
 ·intro h;exact⟨a,h,by show eqV (.int a) (.int a)=true;simp [eqV]⟩
def jH(Z Y:List PP)(m:Nat):Prop:=(∀ y∈Y,y∈Z)/\∀ a:Nat,a < m->((∃ z∈Z,0 < bq z.1 z.2 a)->∃ y∈Y,0 < bq y.1 y.2 a)/\((∃ z∈Z,bq z.1 z.2 a < 0)->∃ y∈Y,bq y.1 y.2 a < 0)
def upB(a:Nat)(z:PP):Bool:=decide (0 < bq z.1 z.2 a)
def vL(a:Nat)(z:PP):Bool:=decide (bq z.1 z.2 a < 0)
def uF{α:Type}{p:α->Bool}{l:List α}{z:α}(hz:z∈l)(h:p z=true):∃ x,x∈(l.filter p).take 1/\p x=true:=by
 have hm:z∈l.filter p:=Sl.mpr ⟨hz,h⟩
 cases hf:l.filter p with
 | nil=>rw [hf] at hm;cases hm
 | cons x r=>
  have hx:x∈l.filter p:=by rw [hf];exact Rr
  exact⟨x,by simp,(Sl.mp hx).2⟩
def jH.step{Z Y Y':List PP}{i:Nat}(h:jH Z Y i)(h1:∀ y∈Y,y∈Y')(h2:∀ x∈(Z.filter (upB i)).take 1++(Z.filter (vL i)).take 1,x∈Y')(h3:∀ y∈Y',y∈Z):jH Z Y' (i+1):=by
 refine⟨h3,λ a ha=>?_⟩
 by_cases e:a=i
 ·subst e;refine⟨λ ⟨z,hz,hg⟩=>?_,λ ⟨z,hz,hg⟩=>?_⟩
  ·obtain⟨x,hx,hp⟩:=uF (p:=upB a) hz (Rp hg);exact⟨x,h2 x (RB _ hx),RW hp⟩
  ·obtain⟨x,hx,hp⟩:=uF (p:=vL a) hz (Rp hg);exact⟨x,h2 x (RG _ hx),RW hp⟩
 ·obtain⟨p1,p2⟩:=h.2 a %[0|8];refine⟨λ hz=>?_,λ hz=>?_⟩
  ·obtain⟨y,hy,hg⟩:=p1 hz;exact⟨y,h1 y hy,hg⟩
  ·obtain⟨y,hy,hg⟩:=p2 hz;exact⟨y,h1 y hy,hg⟩
def sT{α:Type}{R:α->V->Prop}{zs:List α}{ys:List V}(h:Al R zs ys)(n:Nat):Al R (zs.take n) (ys.take n):=by
 refine⟨by rw [R0,R0,h.1],λ i z y hz hy=>?_⟩;rw [Vo] at hz hy;split at hz
 ·rename_i hi;rw [RP hi] at hy;exact h.2 i z y hz hy
 ·cases hz
abbrev lN  (l:Addr) (n:Int) (H:Hp) (Q:VK) (E:XK):Prop:=∃ (Z:List PP) (zs:List V) (m:Nat),n=(m:Int)/\m<=8/\H l=some (.lst zs)/\Al (PrV H) Z zs/\Z.length<=4096/\rR m Z/\∀ (Y:List PP) (r:Addr) (ys:List V) (H':Hp),Ext H H'->H r=none->H' r=some (.lst ys)->Al (PrV H') Y ys->jH Z Y m->Y.length<=2 * m->Q (.ref r) H'
def kG  : Sp:=λ vs H Q E=>∃ (l:Addr) (n:Int),vs=[.ref l,.int n]/\(lN  l n H Q E)
def uc  (l:Addr) (n:Int) (H:Hp) (Q:VK) (E:XK):kG  [.ref l,.int n] H Q E=(lN  l n H Q E):=iu (f:=λ (l:Addr) (n:Int)=>[.ref l,.int n]) (λ _ _ _ _ h=>by cases h;exact⟨rfl,rfl⟩) l n
def jK(T:Tx K mg t):%[2,wF|49] ["pairs", "many"] kG:=by
 have G_V4:=%[pP|44];refine T.F_wF.ok bp (λ _ _ _ _ h=>iw h λ _ _=>rfl) %[0|50]
 ·obtain⟨l,_,rfl,Z,zs,m,rfl,m8,hl,al,ez,c2,kk⟩:=h;refine⟨_,%[%[2,bp,%[(@cU _)|18]|4],%[%[RA,rfl,%[∅,T.z_range,%[%[1|0]|1],∅|32],%[(3),_,bp.nd,rfl,(Or.inr rfl),%[0|7]|14],%[%[(["pair", "pairs", "many", "chosen", "axis", "above", "below", "!pair"]),(1),(4),_,bp.nd,rfl,(Or.inl rfl),(aC (aa bO) ["pairs", "many", "chosen", "axis", "above", "below", "pair"] rfl rfl nofun),rfl,%[%[0|0]|19],(λ _ _ _ _ _=>%[0,["pair", "pairs", "many", "chosen", "axis", "above", "below", "!pair"]|51]),(λ _ _ _ _ _=>(@nF _ _ _ %[ny,%[V4,%[%[0|0],%[%[4|0]|1]|1]|3],%[0|2],(ar _)|15])),(λ _ _ _ _ _=>%[0|0]),∅,(by intros;rfl),%[0|7]|40],%[%[(["pair", "pairs", "many", "chosen", "axis", "above", "below", "!pair"]),(1),(5),_,bp.nd,rfl,(Or.inl rfl),(aC (aa bO) ["pairs", "many", "chosen", "axis", "above", "below", "pair"] rfl rfl nofun),rfl,%[%[0|0]|19],(λ _ _ _ _ _=>%[0,["pair", "pairs", "many", "chosen", "axis", "above", "below", "!pair"]|51]),(λ _ _ _ _ _=>(@nF _ _ _ %[vG,%[V4,%[%[0|0],%[%[4|0]|1]|1]|3],%[0|2],(ar _)|15])),(λ _ _ _ _ _=>%[0|0]),∅,(by intros;rfl),%[0|7]|40],%[%[RA,rfl,%[%[nK,%[JU,%[4|0],(@gY _),(@gX _ _ _ %[0|2])|41],%[JU,%[5|0],(@gY _),(@gX _ _ _ %[0|2])|41]|13]|19],%[6,bp|5],%[%[%[(qo hr.units),%[6|0],%[2|0],(by with_unfolding_all rfl)|15],%[%[%[RS,SU,SS,dD,%[2|0],%[%[6|0]|1],∅,∅,∅,∅,∅|37],∅|20]|10],(@au _)|17]|10],(by intros;rfl)|21]|10]|9]|9],(by intros;rfl)|21],%[%[%[2|0]|11]|10]|9]|9],?_⟩;rw [show az ["pairs", "many", "chosen", "axis", "above", "below", "pair"] [.ref l,.int (m:Int)]=[%[l|45],some (.int (m:Int)),none,none,none,none,none] from rfl];clear G_V4;exists kk;exists c2;ac_rfl;intro r H1 c8 e1 h1;ac_rfl;refine⟨by omega,by omega,?_⟩;refine gZ (λ i σ H'=>∃ (Y:List PP) (ys:List V) (v3 v4 v5 v6:Option V),σ=[%[l|45],some (.int (m:Int)),%[r|45],v3,v4,v5,v6]/\Ext H H'/\H' r=some (.lst ys)/\Al (PrV H') Y ys/\Y.length<=2 * i/\jH Z Y i) ⟨[],[],none,none,none,none,rfl,e1,h1,Al.nil,Rl _,(λ y h=>by cases h),λ a h=>absurd h (TR _)⟩ ?_ ?_
  ·rintro i _ H2 hi ⟨Y,ys,v3,v4,v5,v6,rfl,e2,h2,bb,b4,a4⟩;have eH:i < m:=by have:i < ((m:Int)).toNat:=hi;omega
   have c3:=e2.at hl;have de:=al.imp λ _ _ t=>PrV.ext t e2;have wk:=dv (K:=K) (R:=λ z x H'=>PrV H' z x) (λ _ _ _ _ h e=>PrV.ext h e) c3 de;exists a4;exists bb;clear hi;simp! only [↓aD];refine dF Z (upB i) (λ z x H'=>PrV H' z x) (λ D z y H'=>PrV H' z y) wk.1 wk.2 (λ D _ y H1 H2 h e=>h.ext e) (λ D _ y H1 xs o h hD=>h.upd hD) (ak %[0|8]) ?_ ?_
   ·intro D z y H' N1 N0 hz hD e _ hy k1 k0;have c4:=hy;obtain⟨y',_,_,rfl,_⟩:=c4;have aS:=λ h=>k1 h (.ref y') H' (Ext.refl _) hy;have a3:=λ h=>k0 h H' (Ext.refl _);have d9:=c2 () z hz;unfold upB at aS a3;exists aS;exists a3;clear k1 k0 kk wk hz;simp! only [↓aL,↓aJ];rw [g9];refine⟨z,hy,by omega,by omega,by omega,?_⟩;rw [Int.zero_add,Int.toNat_natCast];generalize bq z.1 z.2 i=g at aS a3
    by_cases hg:0 < g
    ·have k2:=aS () (Rp hg);clear aS a3;ac_rfl
    ·have k2:=a3 () (Ry hg);clear aS a3;ac_rfl
   intro D1 bt H3 ea e3 h3 dy;have dz:=e3.at c3;have cF:=de.imp λ _ _ t=>PrV.ext t e3;have b5:=dv (K:=K) (R:=λ z x H'=>PrV H' z x) (λ _ _ _ _ h e=>PrV.ext h e) dz cF;clear wk ea c3;ac_rfl;refine dF Z (vL i) (λ z x H'=>PrV H' z x) (λ D z y H'=>PrV H' z y) b5.1 b5.2 (λ D _ y H1 H2 h e=>h.ext e) (λ D _ y H1 xs o h hD=>h.upd hD) (ak %[0|8]) ?_ ?_
   ·intro D z y H' N1 N0 hz hD e _ hy k1 k0;have c4:=hy;obtain⟨y',_,_,rfl,_⟩:=c4;have aS:=λ h=>k1 h (.ref y') H' (Ext.refl _) hy;have a3:=λ h=>k0 h H' (Ext.refl _);have d9:=c2 () z hz;unfold vL at aS a3;exists aS;exists a3;clear k1 k0 kk b5 hz;simp! only [↓aL,↓aJ];rw [g9];refine⟨z,hy,by omega,by omega,by omega,?_⟩;rw [Int.zero_add,Int.toNat_natCast];generalize bq z.1 z.2 i=g at aS a3
    by_cases hg:g < 0
    ·have k2:=aS () (Rp hg);clear aS a3;ac_rfl
    ·have k2:=a3 () (Ry hg);clear aS a3;ac_rfl
   intro D2 bx H4 eb e4 h4 d1;have d2:=e4.at h3;have c5:=e3.trans e4;have cS:=dy.imp λ _ _ t=>PrV.ext t e4;have aX:=pT (sT cS 1) (sT d1 1);have a7:=λ (_:Unit)=>λ {Y':List PP}=>(a4 ()).step (Y':=Y');exists aX;clear b5 eb dz dy d1 cS cF h3;have ec:mx bt none (some 1)=bt.take 1:=uA bt 1 ⋯;have eg:mx bx none (some 1)=bx.take 1:=uA bx 1 ⋯;ac_rfl;intro t1 H5 ei e5 h5;have d3:=e5.at h4;clear ei h4 d2 ec;ac_rfl;intro t2 H6 ej e6 h6;have d4:=e6.at h5;have d5:(bt.take 1).length+(bx.take 1).length<=sizeLine:=ak (by rw [R0,R0];omega);clear ej d3 h5 eg;ac_rfl;intro t3 H7 c6 e7 h7;have c7:=e5.trans (e6.trans e7);have cb:=c5.trans c7;have cf:=(aX ()).imp λ _ _ t=>PrV.ext t c7;have el:(bt.take 1++bx.take 1).length<=2:=by rw [RI,R0,R0];omega
   have nt:t3 ≠ r:=λ z=>by rw [z,(c5.trans (e5.trans e6)).at h2] at c6;cases c6
   have cT:=cb.at h2;have c0:=(bb ()).imp λ _ _ t=>PrV.ext t cb
   have b2:∀ x∈(Z.filter (upB i)).take 1++(Z.filter (vL i)).take 1,x∈Z:=λ x hx=>by
    rcases RQ.mp hx with hx|hx
    ·exact(Sl.mp (Sk hx)).1
    ·exact(Sl.mp (Sk hx)).1
   have cm:=(a4 ()).1;have en:=e2.trans cb;generalize (Z.filter (upB i)).take 1++(Z.filter (vL i)).take 1=XX at cf b2 a7;generalize bt.take 1++bx.take 1=xs at h7 cf el;exists b2;exists cm;clear c6 h6 d4 d5 aX e5 e6 e7 c7 c5 cb bb a4;ac_rfl;refine cw (xs:=xs) (λ j σ H'=>∃ (Y':List PP) (a6:List V) (v6:Option V),σ=[%[l|45],some (.int (m:Int)),%[r|45],some (.int (0+(i:Int))),%[D1|45],%[D2|45],v6]/\Ext H H'/\H' t3=some (.lst xs)/\H' r=some (.lst a6)/\Al (PrV H') Y' a6/\Y'.length<=2 * i+j/\(∀ y∈Y,y∈Y')/\(∀ x∈XX.take j,x∈Y')/\(∀ y∈Y',y∈Z)/\Al (PrV H') XX xs) ⟨Y,ys,_,rfl,en,h7,cT,c0,b4,λ _ h=>h,(λ x h=>by cases h),cm (),cf⟩ (λ j σ H' _ ⟨_,_,_,_,_,h,_⟩=>h) ?_ ?_
   ·rintro j y _ H8 hj ⟨Y',a6,ep,rfl,e8,d6,b3,a5,d7,bS,a9,b1,a8⟩;have et:j < XX.length:=by have:=(Rf.mp hj).1;rw [a8.1] at this;exact this
    obtain⟨z,hz⟩:∃ z,XX[j]? = some z:=⟨_,Rb et⟩;have pz:=a8.2 j z y hz hj;have ew:=b2 () z (Rx hz);have e0:j < 2:=by have:=a8.1;omega
    have dp:gU H8 6 y=some (prD z):=Fx (f:=dh H8 (dh H8 (dh H8 noD))) pz;have d0:ba (a6.map (gU H8 5))=some (Y'.map prD):=ja (f:=dh H8 (dh H8 noD)) a5
    have dl:gU H8 6 (.ref r)=some (.list (Y'.map prD)):=by
     rw [jo,b3]
     show xi (gU H8 5) (.lst a6)=_
     rw [gK,d0];rfl
    have ey:a6.length<=20:=by rw [a5.1];omega
    have htk:XX.take (j+1)=XX.take j++[z]:=by rw [R7,hz];rfl
    exists dp;exists dl;exists htk;exists a5;exists a8;exists bS;exists a9;exists b1;exists pz;clear d0 hj hz b2 cm a7 kk;simp! only [↓aD];refine⟨_,_,dp (),dl (),?_⟩;rw [RP rfl,yx]
    by_cases hm:z∈Y'
    ·have fin:(∀ x∈XX.take (j+1),x∈Y'):=λ x hx=>by
      rw [htk ()] at hx
      rcases RQ.mp hx with hx|hx
      ·exact a9 () x hx
      ·rw [Rg.mp hx];exact hm
     rw [Rp hm];exists fin;clear hm;ac_rfl;exact⟨Y',a6,_,rfl,e8,rfl,a5 (),by omega,bS (),fin (),b1 (),a8 ()⟩
    ·rw [Ry hm]
     have fin:(∀ x∈XX.take (j+1),x∈Y'++[z]):=λ x hx=>by
      rw [htk ()] at hx
      rcases RQ.mp hx with hx|hx
      ·exact RB _ (a9 () x hx)
      ·exact RG _ hx
     have e9:a6.length < sizeLine:=iB %[0|8];exists fin;clear hm;ac_rfl
     exact⟨Y'++[z],a6++[y],_,rfl,e8.put c8,by rw [ah nt];exact d6,rfl,nO ((a5 ()).imp λ _ _ t=>PrV.upd t b3) (PrV.upd (pz ()) b3),by rw [RI,Ug];omega,λ y hy=>RB _ (bS () y hy),fin (),λ y hy=>by
      rcases RQ.mp hy with hy|hy
      ·exact b1 () y hy
      ·rw [Rg.mp hy];exact ew,(a8 ()).imp λ _ _ t=>PrV.upd t b3⟩
   ·rintro _ H8 ⟨Y',a6,ep,rfl,e8,d6,b3,a5,d7,bS,a9,b1,a8⟩;rw [a8.1,R6] at a9;have c1:=a7 () bS a9 b1;have d8:Y'.length<=2 * (i+1):=by omega
    exists c1;exists a5;clear a7 bS a9 b1 a8 b2 cm c0 cf h7 cT;ac_rfl;exact⟨Y',a6,_,_,_,_,rfl,e8,rfl,a5 (),d8,c1 ()⟩
  ·rintro _ H2 ⟨Y,ys,v3,v4,v5,v6,rfl,e2,h2,bb,b4,a4⟩;rw [Rt] at a4 b4;have k':=kk () Y r ys H2 e2 c8 h2 bb a4 b4;clear kk a4 bb;ac_rfl
def xk.len{n:Nat}{os:%[0|48]}(h:xk n os):os.length<=n:=by
 have:=h.full.1;rw [RI] at this;omega
def LoI.done{n:Nat}{P:List PP}{os:%[0|48]}(h:LoI n P [] os):∀ z∈P,crB (os++jF n os) z.1 z.2=true:=λ z hz=>by
 rcases h.crr z hz with h|h
 ·cases h
 ·exact nN h
def Pz(P:List PP)(n:Nat)(H:Hp)(x:Addr):Prop:=(∃ (os:%[0|48]) (r:Addr),H x=some (.tup [.str "loops",.ref r])/\aR H r (os.map λ o=>[o.1,o.2])/\i6 os n/\∀ z∈P,crB os z.1 z.2=true)\/∃ (L Y:List PP) (r:Addr) (ys:List V),H x=some (.tup [.str "none",.ref r])/\H r=some (.lst ys)/\Al (PrV H) Y ys/\jH L Y n/\mF n L/\¬ L=[]/\Y.length<=2 * n/\∀ z∈L,z∈P
def Nb(H H':Hp)(x:Addr):Prop:=∀ w r,H' x=some (.tup [w,.ref r])->H r=none
abbrev qS(C:Addr)(u:Addr)(v:Addr)(H:Hp)(Q:VK)(E:XK):Prop:=∃ (room f1 f2:Int) (A B:%[0|48]) (ms:List Int),aE C H u room f1 A/\aE C H v room f2 B/\fM A/\fM B/\(A.map λ a=>a.1)=ms/\(B.map λ a=>a.1)=ms/\ae ms<=4096/\(af f1 A).Nodup/\∀ (x:Addr) (H':Hp),Ext H H'->Nb H H' x->Pz ((aP (af f1 A) (af f2 B) (af f2 B).length).map (rO ms)) ms.length H' x->Q (.ref x) H'
def sA(C:Addr):Sp:=λ vs H Q E=>∃ (u:Addr) (v:Addr),vs=[.ref u,.ref v]/\(qS C u v H Q E)
def BE(C:Addr)(u:Addr)(v:Addr)(H:Hp)(Q:VK)(E:XK):sA C [.ref u,.ref v] H Q E=(qS C u v H Q E):=iu (f:=λ (u:Addr) (v:Addr)=>[.ref u,.ref v]) (λ _ _ _ _ h=>by cases h;exact⟨rfl,rfl⟩) u v
def oQ(T:Tx K mg t):%[8,Bd|49] ["to", "source"] (sA t.a_V3):=by
 have G_A3:=%[cR|44];have G_AX:=%[lQ|44];have G_V4:=%[pP|44];have G_wF:=%[jK|44];refine T.F_Bd.ok br (λ _ _ _ _ h=>iw h λ _ _=>rfl) %[0|50]
 ·obtain⟨u,v,rfl,room,f1,f2,A,B,ms,vu,vv,hA,hB,m1,m2,hs,d2,kk⟩:=h;obtain⟨dx,D,hu,tD⟩:=vu.ob;obtain⟨ax,hD,d3⟩:=tD;have ht:ax.length=ms.length:=by rw [d3.1,←m1];unfold axL;rw [length_map,length_map]
  have c1:=T.cl_View;have c3:=T.na_View_axes;have g3:=cJ room f1 D;refine⟨_,%[%[2,br,%[A3,%[%[0|0],%[%[1|0]|1]|1]|3]|4],%[%[3,br,%[len,ao,%[%[%[0|0],rfl|27]|1]|6]|4],%[%[4,br,%[(@cU _)|18]|4],%[(@fY _ _ (5) _ _ _ _ br.nd rfl (Or.inr rfl) %[AX,%[%[2|0],%[%[3|0]|1]|1]|3] ∅ %[0|7]),%[(@CL _ _ _ _ _ _ RA %[ow,%[5|0],(@mz _ _ _),(ar _)|15] %[%[%[RS,SU,SS,dD,%[4|0],%[%[5|0]|1],∅,∅,∅,∅,∅|37],∅|20],%[%[(["pair", "to", "source", "left", "many", "order", "loop", "used"]),(1),(2),_,br.nd,rfl,(Or.inl rfl),(aC (aa ck) ["to", "source", "left", "many", "order", "loop", "used"] rfl rfl nofun),rfl,%[%[2|0]|19],(λ _ _ _ _ _=>%[0,["pair", "to", "source", "left", "many", "order", "loop", "used"]|51]),(λ _ _ _ _ _=>(@nF _ _ _ %[(cV hr.units),%[V4,%[%[0|0],%[%[cq,%[6|0],%[0|2],(λ _ _=>rfl)|12]|1]|1]|3],%[0|2],(ar _)|15])),(λ _ _ _ _ _=>%[0|0]),∅,(by intros;rfl),%[0|7]|40],%[(@fY _ _ (5) _ _ _ _ br.nd rfl (Or.inr rfl) %[AX,%[%[2|0],%[%[3|0]|1]|1]|3] ∅ %[0|7])|10]|9]|9]),%[%[%[ny,%[len,ao,%[%[2|0]|1]|6],%[0|2],(ar _)|15],%[%[%[%[(@uu _ _ _ _),%[%[wF,%[%[2|0],%[%[3|0]|1]|1]|3]|1]|1]|29]|11]|10],(@au _)|17],%[(@fY _ _ (6) _ _ _ _ br.nd rfl (Or.inr rfl) %[(["axis", "way", "to", "source", "left", "many", "order", "loop", "used"]),(2),(aC (aa ck) ["to", "source", "left", "many", "order", "loop", "used"] rfl rfl nofun),rfl,%[%[4|0]|19],(λ _ _ _ _ _=>(%[(2),rfl,%[%[0,["axis", "way", "to", "source", "left", "many", "order", "loop", "used"]|51],%[%[1,["axis", "way", "to", "source", "left", "many", "order", "loop", "used"]|51],(@aK _),∅|16],∅|16],∅,∅|25].mono λ _ _ _ _ h=>bX h)),(λ _ _ _ _ _=>(@aG _)),(λ _ _ _ _ _=>%[0|0]),(by intros;rfl)|22] ∅ %[0|7]),%[%[%[%[(@uu _ _ _ _),%[%[nK,%[4|0],%[(["axis", "to", "source", "left", "many", "order", "loop", "used"]),(1),(aC (aa ck) ["to", "source", "left", "many", "order", "loop", "used"] rfl rfl nofun),rfl,%[∅,T.z_range,%[%[3|0]|1],∅|32],(λ _ _ _ _ _=>%[0,["axis", "to", "source", "left", "many", "order", "loop", "used"]|51]),(λ _ _ _ _ _=>(@nF _ _ _ %[zZ,%[0|0],%[7|0],(by with_unfolding_all rfl)|15])),(λ _ _ _ _ _=>%[%[%[0|0],%[%[0|2]|1]|1]|29]),(by intros;rfl)|22]|13]|1]|1]|29]|11]|10]|9]|9]|9]|9]|9]|9]|9],?_⟩;rw [show az ["to", "source", "left", "many", "order", "loop", "used"] [.ref u,.ref v]=[%[u|45],%[v|45],none,none,none,none,none] from rfl];clear G_A3 G_AX G_V4 G_wF d3;have h8:ms.length<=8:=by rw [←m1,Rh];exact hA.1
  have n2:=aB f2 B λ b hb=>(hB.2 b hb).1;rw [m2] at n2;exists m1;exists m2;exists d2;exists kk;ac_rfl;rw [iN];refine⟨room,f1,f2,A,B,vu,vv,hA,hB,by rw [m1 (),m2 ()],by rw [m1 ()];omega,d2 (),λ l r ys zs H1 e1 fb fo c2 b1 cf=>?_⟩;rw [m1 ()] at c2;have b2:=nJ c2 cf;have fu:=dt (af f1 A) (af f2 B) (af f2 B).length;have a6:rR ms.length ((aP (af f1 A) (af f2 B) (af f2 B).length).map (rO ms)):=PrV.len;have c4:((aP (af f1 A) (af f2 B) (af f2 B).length).map (rO ms)).length<=4096:=by rw [Rh];omega
  generalize (aP (af f1 A) (af f2 B) (af f2 B).length).map (rO ms)=Z at b2 a6 c4 kk;have fv:=e1.at hu;have fx:=e1.at hD;have ho:(ax.length:Int)=(ms.length:Int):=by omega
  exists a6;exists b2;clear fo c2 cf fu fb;ac_rfl;intro od H2 c5 e2 h2;have d4:=e1.trans e2;have d5:H od=none:=e1.free c5;have fy:r ≠ od:=λ z=>by rw [z,c5] at b1;cases b1
  have c6:=e2.at b1;have c7:=λ (_:Unit)=>(b2 ()).imp λ _ _ t=>PrV.ext t e2;clear b1 b2 fv fx c5 e1 e2;ac_rfl;rw [u4];refine⟨Z,zs,ms.length,rfl,h8,c6,c7 (),c4,a6 (),λ x H3 e3 nx=>?_⟩;have d6:=d4.trans e3;have d7:=e3.at c6;have cm:=e3.at h2;have d8:=(c7 ()).imp λ _ _ t=>PrV.ext t e3;have d9:=LoI.init ms.length Z;clear c6 c7 h2 d4 e3;ac_rfl;refine Gz (by repeat' first|exact OP|exact mo_nI0|exact mo_nI|apply Dl|apply mo_unN|exact Fm|exact QS|exact mo_rI0|exact mo_rI|exact mo_rIsN|exact Dk|exact mo_qEq|exact mo_qIx|exact mo_nil|exact mo_qLen|apply yH|apply mo_tB|apply mo_not|apply mo_and|apply mo_or|apply OQ|apply mo_un|apply mo_cons|apply mo_qLst|apply mo_cb) (λ m σ H'=>∃ (L:List PP) (os:%[0|48]) (lf:Addr) (zs us:List V) (x:V),σ=[%[u|45],%[v|45],%[lf|45],some (.int (ms.length:Int)),%[od|45],some x,none]/\m=L.length/\Ext H H'/\H' lf=some (.lst zs)/\Al (PrV H') L zs/\L.length<=4096/\H' od=some (.lst us)/\Al (bE H') (os.map λ o=>[o.1,o.2]) us/\LoI ms.length Z L os/\lf ≠ od/\KO ms.length L H' x) _ ⟨Z,[],_,zs,[],x,rfl,rfl,d6,d7,d8,c4,cm,⟨rfl,λ i z y h=>by cases h⟩,d9,fy,nx⟩ ?_;rintro m _ H4 ⟨L,os,lf,a9,us,x4,rfl,rfl,e4,c8,bb,ea,a3,a4,hI,f3,hN⟩;clear d7 d8 cm d9 nx d6;have hv:us.length<=8:=by have:=hI.ord.len;rw [a4.1,Rh];omega
  rcases hN with ⟨rfl,de⟩|⟨a,w',q,rfl,hq,f5,hh⟩
  ·have hC:us.length=os.length:=by rw [a4.1,Rh]
   exists hI;exists de;exists bb;exists a4;have bt:a9.length=L.length:=(bb ()).1
   by_cases hLe:L=[]
   ·subst hLe;have f6:a9=[]:=Sf bt;subst f6;have f7:=λ (_:Unit)=>(hI ()).done;have hok:=λ (_:Unit)=>(hI ()).ord.full;have hE:=λ (_:Unit)=>(hI ()).ord.1;have wk:=dv (K:=K) (R:=axP) (λ _ _ _ _ h e=>h.ext e) a3 (ke (a4 ()));clear hI de bt;ac_rfl;refine aV os (λ _=>true) (λ o=>.int o.1) (λ z x H'=>axP z x H') wk.1 wk.2 (ak %[0|8]) ?_ ?_
    ·intro D z y H' N1 N0 hz hD e ⟨qq,hy,hF⟩ k1 _;subst hy;have aX:N1 (.int z.1) H':=k1 rfl H' (Ext.refl _);clear k1 kk wk hz;simp! only [↓dB,↓aJ]
    ·intro D5 H5 f9 e5 h5;rw [ix] at h5;have b3:H5 D5=some (.lst ((os.map λ o=>o.1).map V.int)):=by rw [h5,Se];rfl
     have a7:=e5.at a3;have aS:=(a4 ()).imp λ _ _ t=>bE.ext t e5;exists aS;clear h5 wk f9 a3 a4;ac_rfl;refine⟨by omega,by omega,?_⟩;rw [Rt];refine dF (List.range ms.length) (λ j=>decide (¬ (j:Int)∈os.map λ o=>o.1)) (λ j x H'=>x=.int (0+(j:Nat))) (λ D j y H'=>∃ q,y=.ref q/\H' q=some (.tup [.int (j:Int),.int 1])) di.1 di.2 (λ D _ y H1 H2 ⟨q,h1,h3⟩ e=>⟨q,h1,e.at h3⟩) (λ D _ y H1 xs o ⟨q,h1,h3⟩ hD=>⟨q,h1,by rw [ah (λ z=>by rw [z,hD] at h3;cases h3)];exact h3⟩) (ak (by rw [RL];omega)) ?_ ?_
     ·intro D j y H' N1 N0 hj hD e _ hy k1 k0;subst hy;have eb:=e.at b3;have b4:=Ek (j:Int) (os.map λ o=>o.1);have hK:iA (.int (j:Int))=true:=rfl;have ec:(((os.map λ o=>o.1).map V.int).all iA)=true:=by rw [Vh];exact Sr.mpr λ _ _=>rfl
      have aX:=k1;have a5:=k0
      by_cases hm:(j:Int)∈os.map λ o=>o.1
      ·rw [Rp hm] at b4;have k2:=k0 (Ry (λ z=>z hm)) H' (Ext.refl _);clear k1 k0 aX a5 kk hj hm b3;generalize (os.map λ o=>o.1).map V.int=xs at eb b4 ec;rw [RZ];simp! only [↓aL,↓aJ]
      ·rw [Ry hm] at b4;have k2:=k1 (Rp hm);clear k1 k0 aX a5 kk hj hm b3;generalize (os.map λ o=>o.1).map V.int=xs at eb b4 ec;rw [RZ];simp! only [↓aL,↓aJ];intro t1 H9 hL e9 h9;exact k2 _ H9 e9 ⟨t1,rfl,h9⟩
     intro D7 dy H7 gm e7 h7 b5
     have eg:jF ms.length os=((List.range ms.length).filter λ (j:Nat)=>decide (¬ (j:Int)∈os.map λ o=>o.1)).map λ (j:Nat)=>((j:Int),(1:Int)):=by
      unfold jF;rw [List.filter_map,map_map];rfl
     have cF:Al (bE H7) ((jF ms.length os).map λ o=>[o.1,o.2]) dy:=by
      rw [eg];refine⟨by rw [b5.1,Rh,Rh],λ i z y hz hy=>?_⟩;rw [Se,Rq] at hz;obtain⟨j,hj,rfl⟩:=Rm.mp hz;obtain⟨q,gp,gs⟩:=b5.2 i j y hj hy;exact⟨q,gp,gs⟩
     have gW:=e7.at a7
     have ei:us.length+dy.length<=5000:=by
      have:dy.length<=ms.length:=by rw [b5.1];have:=Uh (λ j:Nat=>decide (¬ (j:Int)∈os.map λ o=>o.1)) (List.range ms.length);rw [RL] at this;exact this
      omega
     exists cF;clear eg b5 gm b3 a7;ac_rfl;refine⟨ak %[0|8],?_⟩;intro r8 H8 ej e8 g0;have el:=e7.trans e8;have g4:=λ (_:Unit)=>pT ((aS ()).imp λ _ _ t=>bE.ext t el) ((cF ()).imp λ _ _ t=>bE.ext t e8);have g5:H r8=none:=(e4.trans (e5.trans e7)).free ej;clear ej ei gW h7;ac_rfl;intro x9 H9 hM e9 h9;exact kk () x9 H9 (e4.trans (e5.trans (el.trans e9))) (λ w r hw=>by rw [h9] at hw;cases hw;exact g5) (.inl ⟨os++jF ms.length os,r8,h9,⟨_,e9.at g0,by rw [SI];exact(g4 ()).imp λ _ _ t=>bE.ext t e9⟩,hok (),f7 ()⟩)
   ·have dz:(0:Int) < (a9.length:Int):=by
     have:L.length ≠ 0:=λ e=>hLe (Sf e);omega
    have fa:(0:Int) < (L.length:Int):=by rw [←bt];exact dz
    clear bt;ac_rfl;rw [uc];refine⟨L,a9,ms.length,rfl,h8,c8,bb (),ea,λ z hz=>a6 () z ((hI ()).sub z hz),λ Y r5 g6 H5 e5 en h5 a8 cS ep=>?_⟩;exists a8;exists cS;have g7:H r5=none:=e4.free en;clear en;ac_rfl;intro x6 H6 hO e6 h6;exact kk () x6 H6 (e4.trans (e5.trans e6)) (λ w r hw=>by rw [h6] at hw;cases hw;exact g7) (.inr ⟨L,Y,r5,g6,h6,e6.at h5,(a8 ()).imp λ _ _ t=>PrV.ext t e6,cS (),de (),hLe,ep,(hI ()).sub⟩)
  ·obtain⟨et,g8⟩:=hI.step hh f5;have hc:q ≠ od:=λ z=>by rw [z,a3] at hq;cases hq
   have hp:us.length < sizeLine:=iB %[0|8];have d0:(upd H4 od (.lst (us++[.ref q]))) q=some (.tup [.int (a:Int),.int w']):=by rw [ah hc];exact hq
   have bx:(upd H4 od (.lst (us++[.ref q]))) lf=some (.lst a9):=by rw [ah f3];exact c8
   have a7:(upd H4 od (.lst (us++[.ref q]))) od=some (.lst (us++[.ref q])):=aq;have a8:=bb.imp λ _ _ t=>PrV.upd (o:=.lst (us++[.ref q])) t a3
   have aS:Al (bE (upd H4 od (.lst (us++[.ref q])))) ((os++[((a:Int),w')]).map λ o=>[o.1,o.2]) (us++[.ref q]):=by
    rw [SI];exact nO (a4.imp λ _ _ t=>bE.upd t a3) (bE.upd ⟨q,rfl,hq⟩ a3)
   have e5:Ext H (upd H4 od (.lst (us++[.ref q]))):=e4.put d5;have bS:=λ (_:Unit)=>hI.sub;exists et;clear hI hh bb a4;ac_rfl;generalize upd H4 od (.lst (us++[.ref q]))=H5 at d0 bx a7 a8 aS e5 ⊢;have wk:=dv (K:=K) (R:=λ z x H'=>PrV H' z x) (λ _ _ _ _ h e=>PrV.ext h e) bx a8;exists aS;clear hq c8 a3 a8 e4;ac_rfl;refine dF L (λ z=>decide (bq z.1 z.2 a=0)) (λ z x H'=>PrV H' z x) (λ D z y H'=>PrV H' z y) wk.1 wk.2 (λ D _ y H1 H2 h e=>h.ext e) (λ D _ y H1 xs o h hD=>h.upd hD) (ak %[0|8]) ?_ ?_
   ·intro D z y H' N1 N0 hz hD e _ hy k1 k0;have hk:=hy;obtain⟨y',_,_,rfl,_⟩:=hk;have aX:=λ h=>k1 h (.ref y') H' (Ext.refl _) hy;have a5:=λ h=>k0 h H' (Ext.refl _);have bt:=a6 () z (bS () z hz);have hP:=e.at d0;exists aX;exists a5;clear k1 k0 wk hz;simp! only [↓aL,↓aJ];rw [g9];refine⟨z,hy,by omega,by omega,by omega,?_⟩;rw [Rt];generalize bq z.1 z.2 a=g at aX a5
    by_cases hg:g=0
    ·have k2:=aX () (Rp hg);clear aX a5;ac_rfl
    ·have k2:=a5 () (Ry hg);clear aX a5;ac_rfl
   intro D6 ew H6 d1 e6 h6 cb;have ey:=e6.at a7;have nD:D6 ≠ od:=λ z=>by rw [z,a7] at d1;cases d1
   have cT:=λ (_:Unit)=>(aS ()).imp λ _ _ t=>bE.ext t e6;have ez:=e5.trans e6;have eH:(L.filter λ z=>decide (bq z.1 z.2 a=0)).length<=4096:=by omega
   have c0:=λ (_:Unit)=>(show rR ms.length (L.filter λ z=>decide (bq z.1 z.2 a=0)) from λ z hz=>a6 () z (bS () z (Sl.mp hz).1));exists cb;clear wk d1 bx a7 aS bS d0 e5;ac_rfl;rw [u4];refine⟨_,ew,ms.length,rfl,h8,h6,cb (),eH,c0 (),λ x7 H7 e7 e0=>?_⟩;have q1:=λ (_:Unit)=>e7.at h6;have q2:=λ (_:Unit)=>(cb ()).imp λ _ _ t=>PrV.ext t e7;have q3:=λ (_:Unit)=>e7.at ey;have q4:=λ (_:Unit)=>(cT ()).imp λ _ _ t=>bE.ext t e7;have hl:=ez.trans e7;exists e0;clear cT cb c0 a6 h6 ey e7 ez e6;ac_rfl;exact⟨_,g8,_,_,D6,ew,_,x7,rfl,rfl,hl,q1 (),q2 (),eH,q3 (),q4 (),et (),nD,e0 ()⟩
abbrev qU  (p:Addr) (q:Addr) (w1:Addr) (w2:Addr) (H:Hp) (Q:VK) (E:XK):Prop:=∃ (ms:List Int) (os:%[0|48]) (ws rs:List Int),H p=%[ms|46]/\aR H q (os.map λ o=>[o.1,o.2])/\i6 os ms.length/\H w1=%[ws|46]/\H w2=%[rs|46]/\SzK ms/\(ws.length:Int)=ae ms/\(rs.length:Int)=ae ms/\ws.Nodup/\∀ H',Ext H H'->Q (.bl (j6 ms ws rs os)) H'
def sC  : Sp:=λ vs H Q E=>∃ (p:Addr) (q:Addr) (w1:Addr) (w2:Addr),vs=[.ref p,.ref q,.ref w1,.ref w2]/\(qU  p q w1 w2 H Q E)
def qH  (p:Addr) (q:Addr) (w1:Addr) (w2:Addr) (H:Hp) (Q:VK) (E:XK):sC  [.ref p,.ref q,.ref w1,.ref w2] H Q E=(qU  p q w1 w2 H Q E):=NF (f:=λ (p:Addr) (q:Addr) (w1:Addr) (w2:Addr)=>[.ref p,.ref q,.ref w1,.ref w2]) (λ _ _ _ _ _ _ _ _ h=>by cases h;exact⟨rfl,rfl,rfl,rfl⟩) p q w1 w2
def oU(T:Tx K mg t):%[2,DK|49] ["_law_sizes", "_law_order", "_law_writes", "_law_reads"] sC:=by
 have G_DU:=%[rm|44];have G_A6:=%[mi|44];refine T.F_DK.ok cp (λ _ _ _ _ h=>NG h λ _ _ _ _=>rfl) %[0|50]
 ·obtain⟨p,q,w1,w2,rfl,ms,os,ws,rs,hp,tq,hok,b2,cT,hsz,lw,lr,a9,k⟩:=h;refine⟨_,%[%[4,cp,(@iE _ _)|4],%[%[5,cp,(@iE _ _)|4],%[%[RA,rfl,%[∅,T.z_range,%[%[len,ao,%[%[2|0]|1]|6]|1],∅|32],%[6,cp|5],%[(@kj _ _ _ _ _ _ _ _ _ (fN hr.units) %[5|0] %[cq,%[2|0],%[6|0],(λ _ _=>rfl)|12] %[cq,%[3|0],%[6|0],(λ _ _=>rfl)|12] rfl)|10],(by intros;rfl)|21],%[%[RA,rfl,%[%[DU,%[%[0|0],%[%[1|0]|1]|1]|3]|19],%[7,cp|5],%[%[6,cp,%[A6,%[%[0|0],%[%[7|0]|1]|1]|3]|4],%[(@kj _ _ _ _ _ _ _ _ _ (fN hr.units) %[4|0] %[cq,%[2|0],%[6|0],(λ _ _=>rfl)|12] (@CZ _ _ _ _ _ _ _ _ _ (fN hr.units) %[4|0] %[cq,%[3|0],%[6|0],(λ _ _=>rfl)|12] %[cq,%[3|0],%[6|0],(λ _ _=>rfl)|12] ⟨by rfl,by rfl,by rfl,by rfl⟩) rfl)|10]|9],(by intros;rfl)|21],%[%[%[(Hv (fN hr.units)),%[4|0],%[5|0],(ar _)|31]|11]|10]|9]|9]|9]|9],?_⟩;rw [show az ["_law_sizes", "_law_order", "_law_writes", "_law_reads", "_law_held", "_law_due", "_law_n", "_law_place"] [.ref p,.ref q,.ref w1,.ref w2]=[%[p|45],%[q|45],%[w1|45],%[w2|45],none,none,none,none] from rfl];clear G_DU G_A6;have h8:=hsz.pos.2.1;have dy:=hsz.pos.2.2;have h6:=hsz.pos.1;have hs:∀ n∈ms,1<=n/\n<=1000000000:=λ n hn=>by have:=h6 n hn;omega
  have lo:=iJ hok tq;have aS:=nR hs lo.2.2;have b3:=uG hok.2.1;have p1:=bJ ms λ m hm=>(hs m hm).1
  have b4:(aF ms os).length=ws.length:=by
   rw [pW hs λ o ho=>(lo.2.2 o ho).1,eP,b3];omega
  have aX:=EC hs lw lr a9 hok aS b4;have b5:∀ z∈aF ms os,ws[(dQ ms z).toNat]? = some (ay ms ws z)/\rs[(dQ ms z).toNat]? = some (ay ms rs z)/\0<=dQ ms z:=λ z hz=>⟨aO hs lw (aS z hz),aO hs lr (aS z hz),(eZ ms z hs (aS z hz)).1⟩;have a4:∀ x∈aF ms os,∀ y∈aF ms os,ay ms ws x=ay ms ws y->x=y:=λ x hx y hy e=>k9 hs lw a9 (aS x hx) (aS y hy) e;have cb:=jc hok.toP (ms:=ms);exists k;exists aX;exists b5;exists a4;exists cb;exists aS;exists h6;exists hs;exists a9;exists b4;exists b3;clear hok hsz;ac_rfl;intro d1 H1 dz e1 h1;ac_rfl;intro d2 H2 hd2 e2 h2;have c0:=e1.trans e2;have a5:=e2.at h1;have c3:H d2=none:=e1.free hd2;have a6:=c0.at b2;have c4:d1 ≠ d2:=λ e=>by rw [e,hd2] at h1;cases h1
  clear h1 e1 e2 hd2;ac_rfl;refine⟨by omega,by omega,?_⟩;refine gZ (λ i σ H'=>∃ v6:Option V,σ=[%[p|45],%[q|45],%[w1|45],%[w2|45],%[d1|45],%[d2|45],v6,none]/\Ext H H'/\H' d1=some (.dK (lW []))/\H' d2=some (.dK (lW ((ws.zip rs).take i)))) ⟨none,rfl,c0,a5,h2⟩ ?_ ?_
  ·rintro i _ H3 hi ⟨v6,rfl,e3,bb,h3⟩;have d0:i < ws.length:=by have:i < (ae ms).toNat:=hi;omega
   obtain⟨c,hc⟩:∃ c,ws[i]? = some c:=⟨_,Rb d0⟩;obtain⟨v,hv⟩:∃ c,rs[i]? = some c:=⟨_,Rb %[0|8]⟩;have a1:atI (ws.map V.int) (0+(i:Int))=some (V.int c):=by rw [RZ];exact cI (by rw [Rq,hc];rfl)
   have a2:atI (rs.map V.int) (0+(i:Int))=some (V.int v):=by rw [RZ];exact cI (by rw [Rq,hv];rfl)
   have d3:=e3.at b2;have d4:=e3.at cT;have a3:bF ((ws.zip rs).take i) c=none:=zz (a9 ()) hc
   have htk:(ws.zip rs).take (i+1)=(ws.zip rs).take i++[(c,v)]:=by
    rw [R7,show (ws.zip rs)[i]? = some (c,v) from Sa.mpr ⟨hc,hv⟩];rfl
   have cf:(lW ((ws.zip rs).take i)).length < sizeLine:=iB (by unfold lW;rw [length_map,length_take,length_zip];omega);exists a3;exists htk;clear hi hc hv k h2 a5 a6;simp! only [↓aD];refine pL (k:=.inl c) h3 cf ?_;rw [yu v (a3 ()),←htk ()];exact⟨_,rfl,e3.put c3,by rw [ah c4];exact bb,aq⟩
  ·rintro _ H3 ⟨v6,rfl,e3,bb,h3⟩;have b1:(ae ms).toNat=ws.length:=by omega
   rw [b1,SO (by rw [Tb];omega)] at h3;clear h2 a5 a6 b1;ac_rfl;rw [EI];refine⟨ms,os,e3.at hp,⟨h8,hs ()⟩,lo.ext e3,by rw [b3 ()];omega,λ wk H4 e4 t4=>?_⟩;obtain⟨us,hu,al⟩:=t4;have d5:=e3.trans e4;have cm:=e4.at bb;have h4:=e4.at h3;clear e3 e4 h3 bb;ac_rfl;refine cw (xs:=us) (λ i σ H'=>∃ v6 v7:Option V,σ=[%[p|45],%[q|45],%[w1|45],%[w2|45],%[d1|45],%[d2|45],v6,v7]/\Ext H H'/\(∀ b o,b ≠ d1->H4 b=some o->H' b=some o)/\H' d1=some (.dK (lW (jw (ay ms ws) (ay ms rs) ((aF ms os).take i))))) ⟨_,none,rfl,d5,λ _ _ _ h=>h,cm⟩ (λ i σ H' _ ⟨_,_,_,_,kp,_⟩=>kp wk _ (λ e=>by rw [e,cm] at hu;cases hu) hu) ?_ ?_
   ·rintro i y _ H5 hi ⟨v6,v7,rfl,e5,kp,h5⟩;obtain⟨z,bt,w',rfl,bx⟩:=cL al hi;have cF:=Rx bt;obtain⟨c1,c2,n0⟩:=b5 () z cF;have d6:w' ≠ d1:=λ e=>by rw [e,cm] at bx;cases bx
    have c5:H5 w'=some (.tup (z.map V.int)):=kp w' _ d6 bx;have c6:=e5.at hp;have a7:=e5.at b2;have a8:=e5.at cT
    have a1:atI (ws.map V.int) (dQ ms z)=some (.int (ay ms ws z)):=by
     obtain⟨n,hn⟩:=RF n0;rw [hn] at c1 ⊢;exact cI (by rw [Rq];rw [Rt] at c1;rw [c1];rfl)
    have a2:atI (rs.map V.int) (dQ ms z)=some (.int (ay ms rs z)):=by
     obtain⟨n,hn⟩:=RF n0;rw [hn] at c2 ⊢;exact cI (by rw [Rq];rw [Rt] at c2;rw [c2];rfl)
    have c7:=aS () z cF
    have bS:jw (ay ms ws) (ay ms rs) ((aF ms os).take (i+1))=jw (ay ms ws) (ay ms rs) ((aF ms os).take i)++[(ay ms ws z,(bF (jw (ay ms ws) (ay ms rs) ((aF ms os).take i)) (ay ms rs z)).getD (ay ms rs z))]:=by
     rw [R7,bt];exact kH _ _ _ _
    have a3:bF (jw (ay ms ws) (ay ms rs) ((aF ms os).take i)) (ay ms ws z)=none:=zL (a4 ()) (cb ()) bt
    have d7:(jw (ay ms ws) (ay ms rs) ((aF ms os).take i)).length<=4096:=by
     have:=SA List.length (eO (ay ms ws) (ay ms rs) ((aF ms os).take i));rw [Rh,Rh,R0] at this;have:=b4 ();omega
    generalize jw (ay ms ws) (ay ms rs) ((aF ms os).take i)=kv at h5 bS a3 d7;have cf:(lW kv).length < sizeLine:=iB (by unfold lW;rw [length_map];omega);exists a3;exists bS;clear hi bt cF c1 c2 bx hu cb b5 a4 aS k aX;simp! only [↓aD];rw [EL];refine⟨ms,z,c6,c5,h6 (),c7,dy,λ H6 e6=>?_⟩;have g1:=e6.at a7;have g2:=e6.at a8;have g3:=e6.at h5;clear c6 c5 a7 a8 h5;ac_rfl;refine GI g3 ?_;ac_rfl;refine KQ (k:=.inl (ay ms rs z)) g3 ?_;rw [sf]
    have c8:((bF kv (ay ms rs z)).map V.int).getD (V.int (ay ms rs z))=V.int ((bF kv (ay ms rs z)).getD (ay ms rs z)):=by
     cases bF kv (ay ms rs z)<;>rfl
    rw [c8];generalize (bF kv (ay ms rs z)).getD (ay ms rs z)=vv at bS;clear c8;ac_rfl;refine pL (k:=.inl (ay ms ws z)) g3 cf ?_;rw [yu vv (a3 ()),←bS ()];exact⟨_,_,rfl,(e5.trans e6).put dz,λ b o hb ho=>by rw [ah hb];exact e6.at (kp b o hb ho),aq⟩
   ·rintro _ H5 ⟨v6,v7,rfl,e5,kp,h5⟩;have de:us.length=(aF ms os).length:=al.1;rw [de,R6] at h5;have cS:=kp d2 _ (Ru c4) h4;have k':=k () H5 e5;rw [←aX ()] at k';clear k aX kp de al;ac_rfl;refine GJ h5 cS ?_;ac_rfl
def jH.both{L Y:List PP}{n:Nat}(h:jH L Y n)(aS:mF n L):∀ a:Nat,a < n->Gw Y a:=λ a ha=>by
 obtain⟨h1,h2⟩:=h.2 a ha
 rcases aS a ha with h0|⟨hn,hp⟩
 ·exact .inl λ y hy=>h0 y (h.1 y hy)
 ·exact .inr ⟨h2 hn,h1 hp⟩
def jH.some{L Y:List PP}{n:Nat}(h:jH L Y n)(hl:rR n L)(aS:¬ L=[])(hd:∀ z∈L,¬ z.1=z.2):¬ Y=[]:=λ e=>by
 obtain⟨z,hz⟩:∃ z,z∈L:=by
  cases L with
  | nil=>exact absurd rfl aS
  | cons a r=>exact⟨a,Rr⟩
 refine hd z hz (UG (by rw [(hl z hz).1,(hl z hz).2]) λ a ha hb=>?_);have aX:a < n:=by rw [←(hl z hz).1];exact ha
 have hg:bq z.1 z.2 a=z.1[a] - z.2[a]:=by
  unfold bq;rw [getD_eq_getElem?_getD,getD_eq_getElem?_getD,getElem?_eq_getElem ha,getElem?_eq_getElem hb];rfl
 obtain⟨h1,h2⟩:=h.2 a aX;apply Classical.byContradiction;intro a4
 rcases Int.lt_trichotomy (bq z.1 z.2 a) 0 with a3|heq|hgt
 ·obtain⟨y,hy,_⟩:=h2 ⟨z,hz,a3⟩;rw [e] at hy;cases hy
 ·omega
 ·obtain⟨y,hy,_⟩:=h1 ⟨z,hz,hgt⟩;rw [e] at hy;cases hy
def De{ms ws rs:List Int}(hs:∀ n∈ms,1<=n/\n<=1000000000)(hw:(ws.length:Int)=ae ms)(hr:(rs.length:Int)=ae ms)(aX:ws.Nodup):∀ z∈(aP ws rs rs.length).map (rO ms),¬ z.1=z.2/\InR ms z.1/\InR ms z.2:=λ z hz=>by
 obtain⟨⟨i,j⟩,hp,rfl⟩:=Rj.mp hz;obtain⟨hj,c,a3,a4,aS⟩:=(kS aX).mp hp;have a6:i < ws.length:=(Rf.mp a4).1;refine⟨λ e=>?_,InR.split ms i hs,InR.split ms j hs⟩;have e':aj ms (i:Int)=aj ms (j:Int):=e;have:=p8 (λ n hn=>(hs n hn).1) %[0|8] %[0|8] %[0|8] %[0|8] e';have a5:i=j:=by omega
 rw [a5] at aS;exact aS a3
def zO(W R:List Int->Int)(zs:List (List Int))(z:List Int)(vals:List Int):jX W R (zs++[z]) vals=(jX W R zs vals).set (W z).toNat ((jX W R zs vals).getD (R z).toNat 0):=by
 unfold jX;rw [foldl_append];rfl
def CA{W R:List Int->Int}{vals:List Int}:∀ zs:List (List Int),(∀ x∈zs,∀ y∈zs,W x=W y->x=y)->zs.Nodup->(∀ z∈zs,(0<=W z/\W z < (vals.length:Int))/\0<=R z/\R z < (vals.length:Int))->(zs.Pairwise λ m n=>W m=R n->R m=W m)->(jX W R zs vals).length=vals.length/\(∀ z∈zs,(jX W R zs vals).getD (W z).toNat 0=vals.getD (R z).toNat 0)/\∀ c:Nat,(∀ z∈zs,¬ (W z).toNat=c)->(jX W R zs vals).getD c 0=vals.getD c 0:=by
 refine ff ?_ ?_
 ·intro _ _ _ _;exact⟨rfl,(λ z h=>by cases h),λ _ _=>rfl⟩
 ·intro zs n ih aS a3 hb a4;have a5:n ∉ zs:=λ h=>(Sm.mp a3).2.2 n h n (Rg.mpr rfl) rfl;have aX:n∈zs++[n]:=RG _ (Rg.mpr rfl);obtain⟨p1,_,p3⟩:=List.pairwise_append.mp a4;obtain⟨i1,i2,i3⟩:=ih (λ x hx y hy=>aS x (RB _ hx) y (RB _ hy)) (Sm.mp a3).1 (λ z hz=>hb z (RB _ hz)) p1;have a8:=hb n aX
  have a6:(jX W R zs vals).getD (R n).toNat 0=vals.getD (R n).toNat 0:=by
   by_cases hex:∃ m∈zs,W m=R n
   ·obtain⟨m,hm,e⟩:=hex;have h1:=p3 m hm n (Rg.mpr rfl) e;rw [←e,i2 m hm,h1]
   ·refine i3 _ λ z hz e=>hex ⟨z,hz,?_⟩;have:=(hb z (RB _ hz)).1;omega
  rw [zO,a6];refine⟨by rw [Th,i1],λ z hz=>?_,λ c hc=>?_⟩
  ·rw [dn]
   rcases RQ.mp hz with hz'|hz'
   ·have a7:¬ (W n).toNat=(W z).toNat:=λ e=>by
     have a9:=(hb z hz).1;have:n=z:=aS n aX z hz %[0|8];exact a5 (by rw [this];exact hz')
    rw [RH λ e=>a7 e.1];exact i2 z hz'
   ·rw [Rg.mp hz',RP ⟨rfl,by rw [i1];omega⟩]
  ·rw [dn,RH λ e=>hc n aX e.1];exact i3 c λ z hz=>hc z (RB _ hz)
def uL(vals ws:List Int)(n:Nat)(hv:vals.length=n)(hw:ws.length=n):∀ i:Nat,i<=n->uh vals (((List.range n).map λ (k:Nat)=>(k:Int)).take i) (ws.take i)=ws.take i++vals.drop i
 | 0,_=>rfl
 | i+1,hi=>by
  have ih:=uL vals ws n hv hw i %[0|8];have hc:((List.range n).map λ (k:Nat)=>(k:Int))[i]? = some (i:Int):=by rw [Rq,Us %[0|8]];rfl
  have aS:ws[i]? = some ws[i]:=Rb %[0|8];have hl:(ws.take i).length=i:=by rw [R0];omega
  rw [qk hc aS,ih,Rt,List.set_append,RH %[0|8],hl,Nat.sub_self,Tz (show i < vals.length by omega),List.set_cons_zero,R7,aS,Vs];rfl
def Ha{vals ws:List Int}(h:ws.length=vals.length):uh vals ((List.range vals.length).map λ (k:Nat)=>(k:Int)) ws=ws:=by
 have:=uL vals ws vals.length rfl h vals.length (Rl _);rw [SO (by rw [Rh,RL];exact Rl _),SO %[0|8],Te (Rl _),T2] at this;exact this
def sW(n:Nat)(h:1<=n):af 0 ([((n:Int),(1:Int))].map aN)=(List.range n).map λ (k:Nat)=>(k:Int):=by
 rw [eW 0 _ (λ a ha=>by rw [Rg.mp ha];show (1:Int)<=n;omega)]
 show bG [0] ((n:Int),(1:Int))=_
 unfold bG;simp
abbrev zp(C:Addr)(p:Addr)(H:Hp)(Q:VK)(E:XK):Prop:=∃ n:Int,H p=some (.lst [.int n])/\1<=n/\n<=4096/\∀ (x:Addr) (H':Hp),Ext H H'->aE C H' x n 0 ([(n,1)].map aN)->Q (.ref x) H'
def FH(C:Addr):Sp:=λ vs H Q E=>∃ (p:Addr),vs=[.ref p,.non]/\(zp C p H Q E)
def JC(C:Addr)(p:Addr)(H:Hp)(Q:VK)(E:XK):FH C [.ref p,.non] H Q E=(zp C p H Q E):=lZ (f:=λ (p:Addr)=>[.ref p,.non]) (λ _ _ h=>by cases h;exact rfl) p
def Df(T:Tx K mg t):%[8,VY|49] ["sizes", "room"] (FH t.a_V3):=by
 have G_DY:=%[ft|44];have G_DZ:=%[tG|44];have G_wC:=%[fS|44];refine T.F_VY.ok yW (λ _ _ _ _ h=>lX h λ _=>rfl) %[0|50]
 ·obtain⟨p,rfl,n,hp,n1,n2,k⟩:=h;refine⟨_,%[%[2,yW,(@ou _ _ _ _ _ _ _ _ %[Lj,%[1|0],(@mz _ _ _),(ar _)|15] %[DY,%[%[0|0]|1]|3] %[1|0])|4],%[%[%[T.mk_View,G_wC,(hr.mono ⋯),∅,T.m_V3,T.b_wC,.nil,aW,%[%[2|0],%[%[0|2],%[(@jm _ _ _ _ _ _ _ _ rfl ∅ T.z_list ∅ T.z_zip %[%[0|0],%[%[DZ,%[%[0|0]|1]|3]|1]|1] ∅ ∅ ∅ ∅)|1]|1]|1],⋯,∅,∅|43]|11]|10]|9],?_⟩;rw [show az ["sizes", "room", "cells"] [.ref p,.non]=[%[p|45],some (.non),none] from rfl];clear G_DY G_DZ G_wC;have hsz:dA [n]:=⟨by simp,λ m hm=>by rw [Rg.mp hm];omega⟩;have aS:H p=some (.lst (([n]:List Int).map V.int)):=hp;have a7:ae [n]=n:=by show n * 1=n;omega
  have a8:fO [n]=[1]:=rfl;have aX:fM [(n,(1:Int))]:=⟨by simp,λ a ha=>by rw [Rg.mp ha];show 1<=n/\n<=1000000000;omega⟩
  have hv:uB n 0 [(n,(1:Int))]:=by
   obtain⟨g1,g2⟩:=kz [(n,(1:Int))] λ a ha=>(aX.2 a ha).1;refine⟨aX,n1,by omega,?_,?_⟩
   ·rw [g1,dI];show 0<=0+(min 0 ((n - 1) * 1)+0);omega
   ·rw [g2,dJ];show 0+(max 0 ((n - 1) * 1)+0) < n;omega
  exists k;clear hp;simp! only [↓iM,↓iY,↓pK,↓BC,↓E3];intro q H1 a4 e1 h1;have a9:=e1.at aS;clear a4 aS;ac_rfl;rw [FE];intro D ts H2 hD e2 h2 a3;have t2:Al (bE H2) (axL [(n,(1:Int))]) ts:=yi (ms:=[n]) (ws:=[1]) a3;clear hD a3;ac_rfl;intro x dx H3 hx bb bt e3 h3 bx;rw [ll];refine⟨dx,[(n,1)],h3,aR.ext ⟨ts,h2,t2⟩ e3,hv,λ H4 D2 e4 bS a5 a6=>?_⟩;have k':=k () x H4 (e1.trans (e2.trans (e4 H2 e3 hx))) ⟨dx,D2,a5,a6⟩;clear k;ac_rfl
abbrev nk(CS CV:Addr)(s:Addr)(v:Addr)(u:Addr)(q:Addr)(H:Hp)(Q:VK)(E:XK):Prop:=∃ (l:Addr) (vals ms:List Int) (os:%[0|48]) (f1 f2:Int) (A1 A2:%[0|48]),da CS H s l vals/\aE CV H v vals.length f1 (A1.map aN)/\aE CV H u vals.length f2 (A2.map aN)/\dc ms.length H q os/\(os.map λ o=>o.1).Nodup/\(∀ m∈ms,1<=m/\m<=4096)/\ms.length<=8/\ae (szO ms os)<=4096/\(A1.map λ a=>a.1)=ms/\(A2.map λ a=>a.1)=ms/\1<=vals.length/\vals.length<=4096/\(0<=f1+bw A1/\f1+aY A1 < (vals.length:Int))/\(0<=f2+bw A2/\f2+aY A2 < (vals.length:Int))/\∀ H',(∀ H0,Ext H0 H->H0 l=none->Ext H0 H')->(∀ b o,b ≠ l->H b=some o->H' b=some o)->H' l=some (.lst ((jX (bR f1 A1) (bR f2 A2) (aF ms os) vals).map V.int))->Q .non H'
def og(CS CV:Addr):Sp:=λ vs H Q E=>∃ (s:Addr) (v:Addr) (u:Addr) (q:Addr),vs=[.ref s,.ref v,.ref u,.ref q]/\(nk CS CV s v u q H Q E)
def wX(CS CV:Addr)(s:Addr)(v:Addr)(u:Addr)(q:Addr)(H:Hp)(Q:VK)(E:XK):og CS CV [.ref s,.ref v,.ref u,.ref q] H Q E=(nk CS CV s v u q H Q E):=NF (f:=λ (s:Addr) (v:Addr) (u:Addr) (q:Addr)=>[.ref s,.ref v,.ref u,.ref q]) (λ _ _ _ _ _ _ _ _ h=>by cases h;exact⟨rfl,rfl,rfl,rfl⟩) s v u q
def Ab(T:Tx K mg t):%[9,VV|49] ["store", "to", "source", "order"] (og t.a_V1 t.a_V3):=by
 have G_tU:=%[bg|44];have G_rD:=%[bC|44];have G_tX:=%[dP|44];have G_A8:=%[aZ|44];have G_Jd:=%[vY|44];have G_DO:=%[rq|44];have G_DR:=%[jB|44];have G_VY:=%[Df|44];refine T.F_VV.ok oK (λ _ _ _ _ h=>NG h λ _ _ _ _=>rfl) (λ c A o s' H vs Q E hr h=>?_)
 ·obtain⟨s,v,u,q,rfl,l,vals,ms,os,f1,f2,A1,A2,so,vv,vu,lo,c0,h6,h8,d7,m1,m2,fb,c3,bS,b1,k⟩:=h;obtain⟨ds,hs⟩:=so.ob;have c4:=so.fl;obtain⟨dx,D,hv,_⟩:=vv.ob;obtain⟨dy,D2,hu,_⟩:=vu.ob;have d8:=hv;have d9:=hs;have c1:=T.cl_Store;have c2:=T.cl_View;have n1:=bI l (m := "refuse_room") nofun;have n2:=bI l (m := "all_values") nofun;have n3:=bI l (m := "put") nofun;have g1:=vn (vals.length:Int) f1 D (m := "sizes") nofun;have g2:=vn (vals.length:Int) f1 D (m := "cell") nofun;have g3:=vn (vals.length:Int) f2 D2 (m := "cell") nofun;refine⟨_,%[%[%[%[0|0],T.cl_Store,T.mt_Store_refuse_room,G_tU,(hr.mono ⋯),T.b_tU,.nil,aW,%[%[1|0]|1],∅,∅,∅|35],∅|20],%[%[%[%[0|0],T.cl_Store,T.mt_Store_refuse_room,G_tU,(hr.mono ⋯),T.b_tU,.nil,aW,%[%[2|0]|1],∅,∅,∅|35],∅|20],%[%[%[rD,%[%[1|0],%[%[2|0]|1]|1]|3],∅|20],%[%[4,oK,%[%[0|0],T.cl_Store,T.mt_Store_all_values,G_tX,(hr.mono ⋯),T.b_tX,.nil,aW,∅|23]|4],%[%[RA,rfl,%[%[Jd,%[%[%[1|0],T.cl_View,T.mt_View_sizes,G_A8,(hr.mono ⋯),T.b_A8,.nil,aW,∅|23],%[%[3|0]|1]|1]|3]|19],%[5,oK|5],%[(@pN _ _ _ _ _ _ %[cq,%[4|0],%[%[2|0],T.cl_View,T.mt_View_cell,G_DO,(hr.mono ⋯),T.b_DO,.nil,aW,%[%[5|0]|1],∅,∅,∅|35],(λ _ _=>rfl)|12] (@ur _ _ _ _ _ _ _ %[4|0] %[%[1|0],T.cl_View,T.mt_View_cell,G_DO,(hr.mono ⋯),T.b_DO,.nil,aW,%[%[5|0]|1],∅,∅,∅|35] jO (by intros;rfl)) ∅ ∅ ∅)|10],(by intros;rfl)|21],%[%[%[%[0|0],T.cl_Store,T.mt_Store_put,G_DR,(hr.mono ⋯),T.b_DR,.nil,aW,%[(@yC _ _ _ _ _ _ _ _ _ _ _ _ _ _ _ _ G_VY (hr.mono ⋯) ∅ T.m_VY T.F_VY.kp T.b_whole_1 (.cons (show bD V.non Value.none from rfl) .nil) aW %[%[%[%[len,ao,%[%[4|0]|1]|6]|1]|18]|1] ⋯ ∅ ∅),%[%[4|0]|1]|1],∅,∅,∅|35],∅|20]|10]|9]|9]|9]|9]|9],?_⟩;rw [show az ["store", "to", "source", "order", "values", "place"] [.ref s,.ref v,.ref u,.ref q]=[%[s|45],%[v|45],%[u|45],%[q|45],none,none] from rfl];clear G_tU G_rD G_tX G_A8 G_Jd G_DO G_DR G_VY;have a6:∀ n∈ms,1<=n/\n<=1000000000:=λ n hn=>by have:=h6 n hn;omega
  have k1:((A1.map aN).map λ a=>a.1)=ms:=by rw [cj];exact m1
  have k2:((A2.map aN).map λ a=>a.1)=ms:=by rw [cj];exact m2
  have c5:fM A1:=⟨by rw [←Rh (f:=λ a:Int × Int=>a.1),m1];exact h8,λ a ha=>a6 a.1 (by rw [←m1];exact Rj.mpr ⟨a,ha,rfl⟩)⟩;have c6:fM A2:=⟨by rw [←Rh (f:=λ a:Int × Int=>a.1),m2];exact h8,λ a ha=>a6 a.1 (by rw [←m2];exact Rj.mpr ⟨a,ha,rfl⟩)⟩;have b2:=dE c5;have ea:=dE c6;have a7:=nR a6 lo.2.2;have b3:=yn ms a6 os λ o ho=>(lo.2.2 o ho).1
  have b4:∀ z∈aF ms os,(bR f1 (A1.map aN) z=bR f1 A1 z/\bR f2 (A2.map aN) z=bR f2 A2 z)/\(0<=bR f1 A1 z/\bR f1 A1 z < (vals.length:Int))/\(0<=bR f2 A2 z/\bR f2 A2 z < (vals.length:Int)):=λ z hz=>by
   have i1:=a7 z hz;have i2:=a7 z hz;rw [←m1] at i1;rw [←m2] at i2;refine⟨⟨?_,?_⟩,mW bS.1 bS.2 i1,mW b1.1 b1.2 i2⟩
   ·unfold bR;rw [oB A1 z i1]
   ·unfold bR;rw [oB A2 z i2]
  exists a7;exists b3;exists b4;exists k;exists k1;exists k2;exists c0;clear m1 m2 c5 c6 bS b1 h6;ac_rfl;rw [gE];refine⟨l,vals,_,f1,_,so,vv,rfl,?_⟩;ac_rfl;rw [gE];refine⟨l,vals,_,f2,_,so,vu,rfl,?_⟩;ac_rfl;rw [js];refine⟨_,_,f1,f2,_,_,vv,vu,b2.1,by rw [k1 (),k2 ()],λ H1 e1=>?_⟩;have eb:=e1.at hs;clear hs;ac_rfl;rw [oJ];refine⟨l,vals,so.ext e1,c3,λ r H2 ec e2 h2=>?_⟩;have b5:=e1.trans e2;have c7:=b5.at hv;clear eb hv;ac_rfl;rw [bA];refine⟨_,f1,_,vv.ext b5,b2.1,λ z3 H3 eg e3 h3=>?_⟩;rw [k1 ()] at h3;have c8:=b5.trans e3;clear eg c7;ac_rfl;rw [wV];refine⟨ms,os,h3,⟨h8,a6⟩,lo.ext c8,c0 (),d7,λ wk H4 cb e4 t4=>?_⟩;rw [b3 ()] at t4;have ei:=c8.trans e4;have a5:=(e3.trans e4).at h2;have ej:wk ≠ r:=λ e=>by rw [e,e3.at h2] at cb;cases cb
  have cf:H r=none:=e1.free ec;have el:l ≠ r:=λ e=>by rw [e] at c4;rw [c4] at cf;cases cf
  obtain⟨us,cm,al⟩:=t4;clear h3 cb e3 e4 b3 e2;ac_rfl;refine cw (xs:=us) (λ i σ H'=>∃ v5:Option V,σ=[%[s|45],%[v|45],%[u|45],%[q|45],%[r|45],v5]/\Ext H H'/\(∀ b o,b ≠ r->H4 b=some o->H' b=some o)/\H' r=some (.lst ((jX (bR f1 A1) (bR f2 A2) ((aF ms os).take i) vals).map V.int))) ⟨none,rfl,ei,λ _ _ _ h=>h,a5⟩ (λ i σ H' _ ⟨_,_,_,kp,_⟩=>kp wk _ ej cm) ?_ ?_
  ·rintro i y _ H5 hi ⟨v5,rfl,e5,kp,h5⟩;obtain⟨z,cF,w',rfl,a9⟩:=cL al hi;have cS:=Rx cF;obtain⟨⟨de,dz⟩,⟨en,ep⟩,⟨et,ew⟩⟩:=b4 () z cS;have bb:=a7 () z cS;have d0:w' ≠ r:=λ e=>by rw [e,a5] at a9;cases a9
   have cT:=kp w' _ d0 a9;have a8:=zN (W:=bR f1 A1) (R:=bR f2 A2) (vals:=vals) cF;have aS:=oq (bR f1 A1) (bR f2 A2) ((aF ms os).take i) vals;generalize jX (bR f1 A1) (bR f2 A2) ((aF ms os).take i) vals=d1 at h5 a8 aS;have a3:=dC (vals:=d1) et (by rw [aS];exact ew);have a4:ixN d1.length (bR f1 A1 z)=some (bR f1 A1 z).toNat:=B7 en (by rw [aS];exact ep);have ey:=e5.at hu;have d2:=e5.at d8;exists a8;exists aS;exists de;exists dz;clear hi cF cS a9 cm a5 b4 a7 k al;simp! only [↓aD];rw [u6];refine⟨_,f2,_,z,vu.ext e5,ea,cT,by rw [k2 ()];exact bb,λ H6 e6=>?_⟩;rw [show f2+gB z ((A2.map aN).map λ a=>a.2)=bR f2 A2 z from dz ()];have ez:=e6.at d2;have bt:=e6.at h5;have d3:=e6.at cT;clear ey d2 cT;ac_rfl;rw [u6];refine⟨_,f1,_,z,vv.ext (e5.trans e6),b2,d3,by rw [k1 ()];exact bb,λ H7 e7=>?_⟩;rw [show f1+gB z ((A1.map aN).map λ a=>a.2)=bR f1 A1 z from de ()];have bx:=e7.at bt;have aX:=e6.trans e7;clear ez bt d3;ac_rfl;refine⟨_,rfl,(e5.trans aX).put cf,λ b o hb ho=>by rw [ah hb];exact aX.at (kp b o hb ho),?_⟩;rw [a8 (),←oz]
  ·rintro _ H5 ⟨v5,rfl,e5,kp,h5⟩;have d4:us.length=(aF ms os).length:=al.1;rw [d4,R6] at h5;have aS:=oq (bR f1 A1) (bR f2 A2) (aF ms os) vals;generalize jX (bR f1 A1) (bR f2 A2) (aF ms os) vals=ws at h5 aS k;have eH:=e5.at d9;have e0:=so.ext e5;have e8:(ws.length:Int)<=4096:=by omega
   have e9:1<=(ws.length:Int):=by omega
   exists aS;clear cm a5 al d4;ac_rfl;intro z6 H6 fa e6 d5;clear fa;ac_rfl;rw [JC];refine⟨_,d5,e9,e8,λ x H7 e7 vx=>?_⟩;have aX:=e6.trans e7;have bx:=aX.at h5;have fo:=aX.at eH;clear d5;ac_rfl;rw [yX];have wc:=sW ws.length %[0|8];refine⟨l,vals,_,0,_,ws,e0.ext aX,vx,dE ⟨by simp,λ a ha=>by rw [Rg.mp ha];show 1<=(ws.length:Int)/\(ws.length:Int)<=1000000000;omega⟩,by rw [aS ()],c3,?_,?_,bx,Ru el,?_,λ H8 q1 q2 q3=>?_⟩
   ·rw [cj];show (ws.length:Int) * 1<=4096;omega
   ·intro c hc;rw [wc] at hc;obtain⟨i,hi,rfl⟩:=Rj.mp hc;have:=RO.mp hi;have:=aS ();omega
   ·rw [cj];show (ws.length:Int)=(ws.length:Int) * 1;omega
   ·rw [wc,aS (),Ha (aS ())] at q3;have d6:=e5.trans aX;have k':=k () H8 (λ H0 x0 x1=>q1 H0 (x0.trans d6) x1) (λ b o hb ho=>q2 b o hb (d6.at ho)) q3;clear k;ac_rfl
def CH{vals:List Int}:∀ ps:%[0|48],(∀ x∈ps,∀ y∈ps,x.1=y.1->x=y)->ps.Nodup->(∀ p∈ps,0<=p.1/\p.1 < (vals.length:Int))->(ps.foldl (λ vs p=>vs.set p.1.toNat p.2) vals).length=vals.length/\(∀ p∈ps,(ps.foldl (λ vs p=>vs.set p.1.toNat p.2) vals).getD p.1.toNat 0=p.2)/\∀ c:Nat,(∀ p∈ps,¬ p.1.toNat=c)->(ps.foldl (λ vs p=>vs.set p.1.toNat p.2) vals).getD c 0=vals.getD c 0:=by
 refine ff ?_ ?_
 ·intro _ _ _;exact⟨rfl,(λ z h=>by cases h),λ _ _=>rfl⟩
 ·intro ps n ih aS a3 hb;have a4:n ∉ ps:=λ h=>(Sm.mp a3).2.2 n h n (Rg.mpr rfl) rfl;have aX:n∈ps++[n]:=RG _ (Rg.mpr rfl);obtain⟨i1,i2,i3⟩:=ih (λ x hx y hy=>aS x (RB _ hx) y (RB _ hy)) (Sm.mp a3).1 (λ z hz=>hb z (RB _ hz));have a6:=hb n aX;rw [S4]
  show ((ps.foldl (λ vs p=>vs.set p.1.toNat p.2) vals).set n.1.toNat n.2).length=_/\(∀ p∈ps++[n],((ps.foldl (λ vs p=>vs.set p.1.toNat p.2) vals).set n.1.toNat n.2).getD p.1.toNat 0=p.2)/\∀ c:Nat,(∀ p∈ps++[n],¬ p.1.toNat=c)->((ps.foldl (λ vs p=>vs.set p.1.toNat p.2) vals).set n.1.toNat n.2).getD c 0=vals.getD c 0
  refine⟨by rw [Th,i1],λ z hz=>?_,λ c hc=>?_⟩
  ·rw [dn]
   rcases RQ.mp hz with hz'|hz'
   ·have a5:¬ n.1.toNat=z.1.toNat:=λ e=>by
     have a7:=hb z hz;have:n=z:=aS n aX z hz %[0|8];exact a4 (by rw [this];exact hz')
    rw [RH λ e=>a5 e.1];exact i2 z hz'
   ·rw [Rg.mp hz',RP ⟨rfl,by rw [i1];omega⟩]
  ·rw [dn,RH λ e=>hc n aX e.1];exact i3 c λ z hz=>hc z (RB _ hz)
def pj{a b:List Int}(hl:a.length=b.length)(h:∀ c:Nat,c < a.length->a.getD c 0=b.getD c 0):a=b:=by
 refine UG hl λ i h1 h2=>?_;have:=h i h1;rw [RU,RU,Rb h1,Rb h2] at this;exact this
def yU{f:Int}{A:%[0|48]}{ms z:List Int}(hs:∀ n∈ms,1<=n/\n<=1000000000)(hm:(A.map λ a=>a.1)=ms)(hz:InR ms z):bR f A z=ay ms (af f A) z:=by
 have one:∀ a∈A,(1:Int)<=a.1:=λ a ha=>(hs a.1 (by rw [←hm];exact Rj.mpr ⟨a,ha,rfl⟩)).1;have hl:=aB f A one;rw [hm] at hl;have hg:=aO hs hl hz;have hn:=eZ ms z hs hz;have:=jq one hg;rw [this,hm,Sb hn.1,dG ms z hs hz];rfl
def AR{ms vals:List Int}{os:%[0|48]}{f1 f2:Int}{A B:%[0|48]}(hs:∀ n∈ms,1<=n/\n<=1000000000)(m1:(A.map λ a=>a.1)=ms)(m2:(B.map λ a=>a.1)=ms)(aX:(af f1 A).Nodup)(ho:i6 os ms.length)(aS:∀ z∈aF ms os,InR ms z)(h1:fe (af f1 A) vals.length)(h2:fe (af f2 B) vals.length)(hk:j6 ms (af f1 A) (af f2 B) os=true):jX (bR f1 A) (bR f2 B) (aF ms os) vals=uh vals (af f1 A) (iy vals (af f2 B)):=by
 have l1:=aB f1 A λ a ha=>(hs a.1 (by rw [←m1];exact Rj.mpr ⟨a,ha,rfl⟩)).1;have l2:=aB f2 B λ a ha=>(hs a.1 (by rw [←m2];exact Rj.mpr ⟨a,ha,rfl⟩)).1;rw [m1] at l1;rw [m2] at l2;rw [qf _ _ λ z hz=>⟨yU hs m1 (aS z hz),yU hs m2 (aS z hz)⟩];generalize af f1 A=ws at *;generalize af f2 B=rs at *;have hP:=ho.toP;have a3:∀ x∈aF ms os,∀ y∈aF ms os,ay ms ws x=ay ms ws y->x=y:=λ x hx y hy e=>k9 hs l1 aX (aS x hx) (aS y hy) e;have a4:=jc hP (ms:=ms);have a8:=(yq (ay ms ws) (ay ms rs) _ a3 a4).mp ((uR hs l1 l2 aX ho aS).mpr hk);have gW:∀ z∈aF ms os,ws[(dQ ms z).toNat]? = some (ay ms ws z)/\rs[(dQ ms z).toNat]? = some (ay ms rs z):=λ z hz=>⟨aO hs l1 (aS z hz),aO hs l2 (aS z hz)⟩;obtain⟨r1,r2,r3⟩:=CA (vals:=vals) _ a3 a4 (λ z hz=>⟨h1 _ (Rx (gW z hz).1),h2 _ (Rx (gW z hz).2)⟩) a8
 have hz:(ws.zip (iy vals rs)).map (λ p=>p.1)=ws:=by
  rw [show (λ p:Int × Int=>p.1)=Prod.fst from rfl,List.map_fst_zip (by unfold iy;rw [length_map];omega)]
 have a9:(ws.zip (iy vals rs)).Nodup:=by
  have a5:=aX;rw [←hz] at a5;exact(Tr.mp a5).imp λ h e=>h (by rw [e])
 have bb:∀ x∈ws.zip (iy vals rs),∀ y∈ws.zip (iy vals rs),x.1=y.1->x=y:=λ x hx y hy e=>by
  obtain⟨i,hi⟩:=Sw.mp hx;obtain⟨j,hj⟩:=Sw.mp hy;have a:=(Sa.mp hi).1;have b:=(Sa.mp hj).1;rw [e] at a;obtain⟨a1,a2⟩:=Rf.mp a;obtain⟨b1,b2⟩:=Rf.mp b;have bt:=(Uj aX).mp (a2.trans b2.symm);rw [bt,hj] at hi;exact(RE hi).symm
 obtain⟨p1,p2,p3⟩:=CH (vals:=vals) _ bb a9 (λ p hp=>h1 p.1 (Tg (show (p.1,p.2)∈_ from hp)).1)
 have a6:∀ z∈aF ms os,(ay ms ws z,vals.getD (ay ms rs z).toNat 0)∈ws.zip (iy vals rs):=λ z hz=>by
  refine mem_of_getElem? (i:=(dQ ms z).toNat) (List.getElem?_zip_eq_some.mpr ⟨(gW z hz).1,?_⟩);unfold iy;rw [getElem?_map,(gW z hz).2];rfl
 refine pj (by rw [r1];exact p1.symm) λ c hc=>?_
 by_cases hex:∃ z∈aF ms os,(ay ms ws z).toNat=c
 ·obtain⟨z,hz,rfl⟩:=hex;rw [r2 z hz];exact(p2 _ (a6 z hz)).symm
 ·rw [r3 c λ z hz e=>hex ⟨z,hz,e⟩];refine(p3 c λ p hp e=>?_).symm;obtain⟨i,hi⟩:=Sw.mp hp;have a7:=(Sa.mp hi).1;have bx:=(Rf.mp a7).1;have zi:InR ms (aj ms (i:Int)):=InR.split ms i hs;refine hex ⟨aj ms (i:Int),nQ zi ho,?_⟩;have:=aO hs l1 zi;rw [eQ ms i λ n hn=>(hs n hn).1,S9 %[0|8] %[0|8],Rt,a7] at this;rw [←RE this];exact e
def KL(y:V):Prop:=y=.non\/(∃ i,y=.int i)\/∃ s,y=.str s
def Nz(ms:List Int)(H:Hp)(y:V):Prop:=KL y\/(∃ q xs,y=.ref q/\H q=some (.lst xs))\/(∃ q xs,y=.ref q/\H q=some (.tup xs)/\¬ (xs.length:Int)=2)\/∃ q x1 x2,y=.ref q/\H q=some (.tup [x1,x2])/\gc H x1/\gc H x2/\(dU ms x1 H=false\/dU ms x2 H=false)
def KnT(ms:List Int)(Z:List PP)(H:Hp)(y:V)(b:Bool):Prop:=(∃ (q:Addr) (z:PP),y=.ref q/\PKV H z q/\InR ms z.1/\InR ms z.2/\b=decide (z∈Z))\/(b=false/\Nz ms H y)
def Nz.ext{ms:List Int}{H H':Hp}{y:V}(h:Nz ms H y)(e:Ext H H'):Nz ms H' y:=by
 rcases h with h|⟨q,xs,h1,h2⟩|⟨q,xs,h1,h2,h3⟩|⟨q,x1,x2,h1,h2,h3,h4,h5⟩
 ·exact .inl h
 ·exact .inr (.inl ⟨q,xs,h1,e.at h2⟩)
 ·exact .inr (.inr (.inl ⟨q,xs,h1,e.at h2,h3⟩))
 ·exact .inr (.inr (.inr ⟨q,x1,x2,h1,e.at h2,h3.ext e,h4.ext e,by rw [jl e h3.1,jl e h4.1];exact h5⟩))
def KnT.ext{ms:List Int}{Z:List PP}{H H':Hp}{y:V}{b:Bool}(h:KnT ms Z H y b)(e:Ext H H'):KnT ms Z H' y b:=by
 rcases h with ⟨q,z,h1,h2,h3⟩|⟨h1,h2⟩
 ·exact .inl ⟨q,z,h1,h2.ext e,h3⟩
 ·exact .inr ⟨h1,h2.ext e⟩
def gD:∀ {a b:List Int},a.map V.int=b.map V.int->a=b
 | [],[],_=>rfl
 | [],_::_,h=>by simp at h
 | _::_,[],h=>by simp at h
 | x::a,y::b,h=>by
  rw [Sh,Sh] at h
  injection h with h1 h2
  injection h1 with h1
  rw [h1,gD h2]
def JN{H:Hp}{q:Addr}{z z':PP}(h:PKV H z q)(h':PKV H z' q):z=z':=by
 obtain⟨u,v,a1,a2,a3⟩:=h;obtain⟨u',v',b1,b2,b3⟩:=h';rw [a1] at b1;simp only [Option.some.injEq,HO.tup.injEq,UY,V.ref.injEq,and_true] at b1;obtain⟨rfl,rfl⟩:=b1;rw [a2] at b2;rw [a3] at b3;exact Prod.ext (gD (HO.tup.inj (RE b2))) (gD (HO.tup.inj (RE b3)))
def KnT.odd{ms:List Int}{Z:List PP}{H:Hp}{y:V}{b:Bool}(h:KnT ms Z H y b)(h0:KnT ms Z H y false):b=false:=by
 rcases h with ⟨q,z,rfl,h2,h3,h4,rfl⟩|⟨h1,_⟩
 ·rcases h0 with ⟨q',z',e,g2,_,_,g5⟩|⟨_,g⟩
  ·cases e;rw [JN h2 g2];exact g5.symm
  ·obtain⟨u,v,a1,a2,a3⟩:=h2
   rcases g with (g|⟨_,g⟩|⟨_,g⟩)|⟨q',xs,e,g⟩|⟨q',xs,e,g,gl⟩|⟨q',x1,x2,e,g,_,_,gp⟩
   ·cases g
   ·cases g
   ·cases g
   ·cases e;rw [a1] at g;cases g
   ·cases e;rw [a1] at g;cases g;exact absurd rfl gl
   ·cases e;rw [a1] at g;cases g;rw [gf a2 h3,gf a3 h4] at gp
    rcases gp with gp|gp<;>cases gp
 ·exact h1
abbrev zu(P:Program)(w:World)(y:V)(p:Addr)(d:Addr)(H:Hp)(Q:VK)(E:XK):Prop:=∃ (ms:List Int) (Z:List PP) (b:Bool),H p=%[ms|46]/\dA ms/\KnT ms Z H y b/\pH P w H d Z/\∀ H',Ext H H'->Q (.bl b) H'
def FL(P:Program)(w:World):Sp:=λ vs H Q E=>∃ (y:V) (p:Addr) (d:Addr),vs=[y,.ref p,.ref d]/\(zu P w y p d H Q E)
def JD(P:Program)(w:World)(y:V)(p:Addr)(d:Addr)(H:Hp)(Q:VK)(E:XK):FL P w [y,.ref p,.ref d] H Q E=(zu P w y p d H Q E):=xf (f:=λ (y:V) (p:Addr) (d:Addr)=>[y,.ref p,.ref d]) (λ _ _ _ _ _ _ h=>by cases h;exact⟨rfl,rfl,rfl⟩) y p d
def jJ(T:Tx K mg t):%[4,wG|49] ["thing", "sizes", "known"] (FL P w):=by
 have G_D8:=%[lD|44];refine T.F_wG.ok lT (λ _ _ _ _ h=>xg h λ _ _ _=>rfl) %[0|50]
 ·obtain⟨y,p,d,rfl,ms,Z,b,hp,hsz,hk,kn,kk⟩:=h;refine⟨_,%[%[(PW.pt %[%[%[%[isinstance,bz,%[%[0|0],%[(@cY _ _ (.ty "tuple") (.type "tuple") _ ∅ T.z_tuple nofun rfl ⋯ ⋯)|1]|1]|6],(by intros;rfl)|28]|26],%[%[(dk hr.units),%[len,ao,%[%[0|0]|1]|6],%[0|2],(ar _)|15]|34]|33]),%[%[(@dw _ _ _ _)|11]|10],(@au _)|17],%[%[%[%[D8,%[%[1|0],%[%[cq,%[0|0],%[0|2],(λ _ _=>rfl)|12]|1]|1]|3],%[%[D8,%[%[1|0],%[%[cq,%[0|0],%[0|2],(λ _ _=>rfl)|12]|1]|1]|3],%[%[(Ln hr.units),%[0|0],%[2|0],(by with_unfolding_all rfl)|31]|36]|30]|30]|11]|10]|9],?_⟩;rw [show az ["thing", "sizes", "known"] [y,.ref p,.ref d]=[some (y),%[p|45],%[d|45]] from rfl];clear G_D8;exists kk;exists kn
  rcases hk with ⟨q,z,rfl,hk,i1,i2,rfl⟩|⟨rfl,ho⟩
  ·have a5:=hk;obtain⟨u,v,hb,hu,hv⟩:=a5;exists hk;have t1:=gi hu;have p1:dU ms (.ref u) H=true:=gf hu i1;simp! only [↓cM,↓iY,↓vF];intro H1 e1;have a6:=e1.at hb;have a4:=e1.at hp;have aS:=e1.at hv;have t2:=gi aS;have p2:dU ms (.ref v) H1=true:=gf aS i2;clear t1 p1 hb hp hu hv;simp! only [↓cM,↓iY,↓vF];intro H2 e2;have aX:=e1.trans e2;have a7:=(kn ()).ext aX;have a8:=(hk ()).ext aX;have k':=kk () H2 aX;clear t2 p2 kk kn hk a6 a4 aS;ac_rfl;exact GG a7 a8 k'
  ·have k0:=kk () H (Ext.refl _)
   rcases ho with (rfl|⟨_,rfl⟩|⟨_,rfl⟩)|⟨q,xs,rfl,hq⟩|⟨q,xs,rfl,hq,hlen⟩|⟨q,x1,x2,rfl,hq,t1,t2,a3⟩
   ·clear kk kn;ac_rfl
   ·clear kk kn;ac_rfl
   ·clear kk kn;ac_rfl
   ·clear kk kn;ac_rfl
   ·clear kk kn;ac_rfl
   ·cases p1:dU ms x1 H with
    | false=>
     clear k0 kn t2 a3;simp! only [↓cM,↓iY,↓vF];intro H1 e1;have k':=kk () H1 e1;clear kk t1 p1;ac_rfl
    | true=>
     have p2:dU ms x2 H=false:=by
      rcases a3 with h|h
      ·rw [h] at p1;cases p1
      ·exact h
     clear k0 kn a3;simp! only [↓cM,↓iY,↓vF];intro H1 e1;have t3:=t2.ext e1;have p3:dU ms x2 H1=false:=by rw [jl e1 t2.1];exact p2
     have a9:=e1.at hq;have a4:=e1.at hp;clear t1 p1 hq hp t2 p2;simp! only [↓cM,↓iY,↓vF];intro H2 e2;have k':=kk () H2 (e1.trans e2);clear kk t3 p3;ac_rfl
def eu(Y:List PP)(a:Nat):Bool:=(Y.all λ z=>decide (bq z.1 z.2 a=0)) || ((Y.any λ z=>decide (bq z.1 z.2 a < 0)) && Y.any λ z=>decide (0 < bq z.1 z.2 a))
def nA(gs:List Int)(M:Int):Prop:=M∈gs/\∀ g∈gs,M<=g
def rZ(gs:List Int)(M:Int):Prop:=M∈gs/\∀ g∈gs,g<=M
def zd{Y:List PP}{a:Nat}{M N:Int}(h1:nA (Y.map λ z=>bq z.1 z.2 a) M)(h2:rZ (Y.map λ z=>bq z.1 z.2 a) N):eu Y a=decide ((M < 0/\0 < N)\/(M=0/\N=0)):=by
 obtain⟨m1,l1⟩:=h1;obtain⟨m2,l2⟩:=h2;have gm:∀ z∈Y,bq z.1 z.2 a∈Y.map λ z=>bq z.1 z.2 a:=λ z hz=>List.mem_map.mpr ⟨z,hz,rfl⟩;apply Bool.eq_iff_iff.mpr;unfold eu;rw [Bool.or_eq_true,Bool.and_eq_true,all_eq_true,any_eq_true,any_eq_true,decide_eq_true_eq];obtain⟨zm,aS,em⟩:=List.mem_map.mp m1;obtain⟨zn,aX,en⟩:=List.mem_map.mp m2;constructor
 ·rintro (h|⟨⟨z,hz,hg⟩,y,hy,a3⟩)
  ·have a1:=RW (h zm aS);have a2:=RW (h zn aX);omega
  ·have a1:=RW hg;have a2:=RW a3;have:=l1 _ (gm z hz);have:=l2 _ (gm y hy);omega
 ·rintro (⟨h1,h2⟩|⟨h1,h2⟩)
  ·exact .inr ⟨⟨zm,aS,Rp %[0|8]⟩,zn,aX,Rp %[0|8]⟩
  ·refine .inl λ z hz=>Rp ?_;have:=l1 _ (gm z hz);have:=l2 _ (gm z hz);omega
def nA.eq{gs:List Int}{M N:Int}(h:nA gs M)(h':nA gs N):N=M:=Int.le_antisymm (h'.2 M h.1) (h.2 N h'.1)
def MinMax.le{gs:List Int}{M N:Int}(h:nA gs M)(h':rZ gs N):M<=N:=h.2 N h'.1
def Fn:∀ gs:List Int,gs ≠ []->∃ N,rZ gs N
 | [],h=>absurd rfl h
 | [g],_=>⟨g,Rr,λ x hx=>by rw [Rg.mp hx];exact Vf _⟩
 | g::h::r,_=>by
  obtain⟨N,h1,h2⟩:=Fn (h::r) (by simp)
  by_cases hg:g<=N
  ·exact⟨N,Ro _ h1,λ x hx=>by
    rcases Rz.mp hx with e|hx
    ·rw [e];exact hg
    ·exact h2 x hx⟩
  ·exact⟨g,Rr,λ x hx=>by
    rcases Rz.mp hx with e|hx
    ·rw [e];exact Vf _
    ·have:=h2 x hx;omega⟩
abbrev vz  (l:Addr) (a:Int) (H:Hp) (Q:VK) (E:XK):Prop:=∃ (Y:List PP) (ys:List V) (n:Nat),H l=some (.lst ys)/\Al (PrV H) Y ys/\Y.length<=4096/\¬ Y=[]/\rR n Y/\0<=a/\a < (n:Int)/\n<=8/\∀ H',Ext H H'->Q (.bl (eu Y a.toNat)) H'
def xS  : Sp:=λ vs H Q E=>∃ (l:Addr) (a:Int),vs=[.ref l,.int a]/\(vz  l a H Q E)
def ES  (l:Addr) (a:Int) (H:Hp) (Q:VK) (E:XK):xS  [.ref l,.int a] H Q E=(vz  l a H Q E):=iu (f:=λ (l:Addr) (a:Int)=>[.ref l,.int a]) (λ _ _ _ _ h=>by cases h;exact⟨rfl,rfl⟩) l a
def rl(T:Tx K mg t):%[2,DQ|49] ["pairs", "axis"] xS:=by
 have G_V4:=%[pP|44];refine T.F_DQ.ok lJ (λ _ _ _ _ h=>iw h λ _ _=>rfl) %[0|50]
 ·obtain⟨l,a,rfl,Y,ys,n,hl,al,bS,a7,a8,a0,a1,n8,kk⟩:=h;refine⟨_,%[%[(["pair", "pairs", "axis", "gaps"]),(1),(2),_,lJ.nd,rfl,(Or.inl rfl),(aC (aa fi) ["pairs", "axis", "gaps"] rfl rfl nofun),rfl,%[%[0|0]|19],(λ _ _ _ _ _=>%[0,["pair", "pairs", "axis", "gaps"]|51]),(λ _ _ _ _ _=>(@aG _)),(λ _ _ _ _ _=>%[V4,%[%[0|0],%[%[2|0]|1]|1]|3]),∅,(by intros;rfl),%[0|7]|40],%[%[(@Lb _ _ _ _ _ _ _ %[%[vG,%[min,(gN rfl),%[%[2|0]|1]|6],%[0|2],(ar _)|31],%[%[ny,%[max,(gO rfl),%[%[2|0]|1]|6],%[0|2],(ar _)|31]|36]|30] %[%[%[(cV hr.units),%[min,(gN rfl),%[%[2|0]|1]|6],%[0|2],(ar _)|31],%[%[(cV hr.units),%[max,(gO rfl),%[%[2|0]|1]|6],%[0|2],(ar _)|31]|36]|30]|36])|11]|10]|9],?_⟩;rw [show az ["pairs", "axis", "gaps"] [.ref l,.int a]=[%[l|45],%[a|47],none] from rfl];clear G_V4;have wk:=dv (K:=K) (R:=λ z x H'=>PrV H' z x) (λ _ _ _ _ h e=>PrV.ext h e) hl al;have a9:0 < Y.length:=Vd.mpr a7;exists kk;exists a8;clear a7;ac_rfl;refine aV Y (λ _=>true) (λ z=>.int (bq z.1 z.2 a.toNat)) (λ z x H'=>PrV H' z x) wk.1 wk.2 (ak %[0|8]) ?_ ?_
  ·intro D z y H' N1 N0 hz hD e hy k1 _;have bb:=hy;obtain⟨y',_,_,rfl,_⟩:=bb;have bt:N1 (.int (bq z.1 z.2 a.toNat)) H':=k1 rfl H' (Ext.refl _);have b1:=a8 () z hz;clear k1 kk wk hz;simp! only [↓aL,↓aJ];rw [g9];exact⟨z,hy,a0,by omega,by omega,bt⟩
  intro D H1 hD e1 h1;rw [ix] at h1;have bx:H1 D=some (.lst ((Y.map λ z=>bq z.1 z.2 a.toNat).map V.int)):=by rw [h1,Se];rfl
  have a4:0 < (Y.map λ z=>bq z.1 z.2 a.toNat).length:=by rw [Rh];exact a9
  have aX:=λ (_:Unit) (M N:Int) (h1:nA (Y.map λ z=>bq z.1 z.2 a.toNat) M) (h2:rZ (Y.map λ z=>bq z.1 z.2 a.toNat) N)=>zd (a:=a.toNat) h1 h2;have k':=λ (_:Unit)=>kk () H1 e1;generalize (Y.map λ z=>bq z.1 z.2 a.toNat)=gs at bx a4 aX;clear wk h1 hD kk;ac_rfl;rw [kh];refine⟨a4,λ M hM hle=>?_⟩;have aS:nA gs M:=⟨hM,hle⟩;exists aS;clear hM hle
  by_cases hm:M < 0
  ·ac_rfl;rw [nB];refine⟨a4,λ N hN a5=>?_⟩;have hv:=aX () M N (aS ()) ⟨hN,a5⟩;clear hN a5
   by_cases hn:0 < N
   ·rw [Rp (.inl ⟨hm,hn⟩)] at hv;have k2:=k' ();rw [hv] at k2;clear hv k' aX;ac_rfl
   ·rw [Ry %[0|8]] at hv;have k2:=k' ();rw [hv] at k2;clear hv k' aX;ac_rfl;rw [kh];refine⟨a4,λ M2 a6 a3=>?_⟩;have e2:=(aS ()).eq ⟨a6,a3⟩;subst e2;have hz:¬ M2=0:=by omega
    clear a6 a3;ac_rfl
  ·ac_rfl;rw [kh];refine⟨a4,λ M2 a6 a3=>?_⟩;have e2:=(aS ()).eq ⟨a6,a3⟩;subst e2;clear a6 a3
   by_cases hz:M2=0
   ·subst hz;ac_rfl;rw [nB];refine⟨a4,λ N hN a5=>?_⟩;have hv:=aX () 0 N (aS ()) ⟨hN,a5⟩;clear hN a5;have k2:=k' ()
    by_cases hn:N=0
    ·rw [Rp (.inr ⟨rfl,hn⟩)] at hv;rw [hv] at k2;clear hv k' aX;ac_rfl
    ·rw [Ry %[0|8]] at hv;rw [hv] at k2;clear hv k' aX;ac_rfl
   ·obtain⟨N,hN⟩:∃ N,rZ gs N:=by
     obtain⟨g,hg⟩:=List.exists_mem_of_length_pos a4;exact Fn gs (List.ne_nil_of_mem hg)
    have hv:=aX () M2 N (aS ()) hN;rw [Ry %[0|8]] at hv;have k2:=k' ();rw [hv] at k2;clear hv k' aX hN;ac_rfl
def PrV.pk{H:Hp}{z:PP}{q:Addr}(h:PrV H z (.ref q)):PKV H z q:=by
 obtain⟨q',u,v,e,h1,h2,h3⟩:=h;cases e;exact⟨u,v,h1,h2,h3⟩
def CM{H:Hp}{z:PP}{y:V}{d:Addr}{φ:Heap->Prop}{o:HO}(h:PrV H z y)(hd:H d=some (.ext φ)):PrV (upd H d o) z y:=by
 obtain⟨q,u,v,rfl,h1,h2,h3⟩:=h;obtain⟨u',v',g1,g2,g3⟩:=PKV.upd (o:=o) (k:=z) (b:=q) ⟨u,v,h1,h2,h3⟩ hd;exact⟨q,u',v',rfl,g1,g2,g3⟩
def Ku{H:Hp}{d:Addr}{Z:List PKy}(h:pH P w H d Z):∃ φ,H d=some (.ext φ):=by
 obtain⟨xs,h1,_⟩:=h;exact⟨_,h1⟩
def KnT.same{ms:List Int}{Z Z':List PP}{H:Hp}{y:V}{b:Bool}(h:KnT ms Z H y b)(hz:∀ z,z∈Z ↔ z∈Z'):KnT ms Z' H y b:=by
 rcases h with ⟨q,z,h1,h2,h3,h4,h5⟩|h
 ·exact .inl ⟨q,z,h1,h2,h3,h4,by rw [h5];exact VB.mpr (hz z)⟩
 ·exact .inr h
def FC(Z Y:List PP)(n:Nat):Bool:=(Y.all λ z=>decide (z∈Z)) && (List.range n).all (eu Y)
def xu(ms:List Int)(Z:List PP)(H:Hp)(x:V)(b:Bool):Prop:=(b=false/\(KL x\/∃ q,x=.ref q/\((∃ xs,H q=some (.tup xs))\/(∃ kvs,H q=some (.dK kvs))\/H q=some (.lst []))))\/∃ (q:Addr) (ys:List V),x=.ref q/\H q=some (.lst ys)/\0 < ys.length/\ys.length<=4096/\((∃ Y:List PP,Al (PrV H) Y ys/\(∀ z∈Y,InR ms z.1/\InR ms z.2)/\b=FC Z Y ms.length)\/(b=false/\(∀ y∈ys,∃ c,KnT ms Z H y c)/\∃ y∈ys,KnT ms Z H y false))
def xu.ext{ms:List Int}{Z:List PP}{H H':Hp}{x:V}{b:Bool}(h:xu ms Z H x b)(e:Ext H H'):xu ms Z H' x b:=by
 rcases h with ⟨h1,h2⟩|⟨q,ys,h1,h2,h3,h4,h5⟩
 ·refine .inl ⟨h1,?_⟩
  rcases h2 with h2|⟨q,hq,⟨xs,h⟩|⟨kvs,h⟩|h⟩
  ·exact .inl h2
  ·exact .inr ⟨q,hq,.inl ⟨xs,e.at h⟩⟩
  ·exact .inr ⟨q,hq,.inr (.inl ⟨kvs,e.at h⟩)⟩
  ·exact .inr ⟨q,hq,.inr (.inr (e.at h))⟩
 ·refine .inr ⟨q,ys,h1,e.at h2,h3,h4,?_⟩
  rcases h5 with ⟨Y,a1,a2⟩|⟨a1,a2,y,hy,a3⟩
  ·exact .inl ⟨Y,a1.imp λ _ _ t=>PrV.ext t e,a2⟩
  ·exact .inr ⟨a1,λ y hy=>(let ⟨c,hc⟩:=a2 y hy;⟨c,hc.ext e⟩),y,hy,a3.ext e⟩
abbrev vy(C:Addr)(u:Addr)(v:Addr)(x:V)(H:Hp)(Q:VK)(E:XK):Prop:=∃ (room f1 f2:Int) (A B:%[0|48]) (ms:List Int) (Z:List PP) (b:Bool),aE C H u room f1 A/\aE C H v room f2 B/\fM A/\fM B/\(A.map λ a=>a.1)=ms/\(B.map λ a=>a.1)=ms/\ae ms<=4096/\(af f1 A).Nodup/\(aP (af f1 A) (af f2 B) (af f2 B).length).map (rO ms)=Z/\xu ms Z H x b/\∀ H',Ext H H'->Q (.bl b) H'
def xR(C:Addr):Sp:=λ vs H Q E=>∃ (u:Addr) (v:Addr) (x:V),vs=[.ref u,.ref v,x]/\(vy C u v x H Q E)
def oI(C:Addr)(u:Addr)(v:Addr)(x:V)(H:Hp)(Q:VK)(E:XK):xR C [.ref u,.ref v,x] H Q E=(vy C u v x H Q E):=xf (f:=λ (u:Addr) (v:Addr) (x:V)=>[.ref u,.ref v,x]) (λ _ _ _ _ _ _ h=>by cases h;exact⟨rfl,rfl,rfl⟩) u v x
def HA(T:Tx K mg t):%[8,V2|49] ["to", "source", "some"] (xR t.a_V3):=by
 have G_A3:=%[cR|44];have G_wG:=%[jJ|44];have G_A8:=%[aZ|44];have G_DQ:=%[rl|44];refine T.F_V2.ok yh (λ _ _ _ _ h=>xg h λ _ _ _=>rfl) %[0|50]
 ·obtain⟨u,v,x,rfl,room,f1,f2,A,B,ms,Z,b,vu,vv,hA,hB,m1,m2,fa,c7,hZ,bt,kk⟩:=h;obtain⟨dx,D,hu,tD⟩:=vu.ob;obtain⟨ax,hD,c8⟩:=tD;have fb:(ax.length:Int)=(ms.length:Int):=by rw [c8.1,←m1];unfold axL;rw [length_map,length_map]
  have c1:=T.cl_View;have c3:=T.na_View_axes;have g3:=cJ room f1 D;have f4:=vn room f1 D (m := "sizes") nofun;refine⟨_,%[(@fY _ _ (3) _ _ _ _ yh.nd rfl (Or.inr rfl) (@zU _ _) ∅ %[0|7]),%[%[RA,rfl,%[%[A3,%[%[0|0],%[%[1|0]|1]|1]|3]|19],%[4,yh|5],%[(@Hd _ _ _ _ _ _ _ _ _ hr.units %[3|0] %[4|0] (@dw _ _ _ _) rfl)|10],(by intros;rfl)|21],%[%[(PW.pt %[%[%[%[isinstance,bz,%[%[2|0],%[(@cY _ _ (.ty "list") (.type "list") _ ∅ T.z_list nofun rfl ⋯ ⋯)|1]|1]|6],(by intros;rfl)|28]|26],%[%[(cV hr.units),%[len,ao,%[%[2|0]|1]|6],%[0|2],(ar _)|15]|34]|33]),%[%[(@dw _ _ _ _)|11]|10],(@au _)|17],%[%[%[%[%[all,(eS rfl),%[%[(["thing", "to", "source", "some", "known", "pair"]),(1),(aC (aa pM) ["to", "source", "some", "known", "pair"] rfl rfl nofun),rfl,%[%[2|0]|19],(λ _ _ _ _ _=>%[0,["thing", "to", "source", "some", "known", "pair"]|51]),(λ _ _ _ _ _=>(@aG _)),(λ _ _ _ _ _=>%[wG,%[%[0|0],%[%[%[1|0],T.cl_View,T.mt_View_sizes,G_A8,(hr.mono ⋯),T.b_A8,.nil,aW,∅|23],%[%[4|0]|1]|1]|1]|3]),(by intros;rfl)|22]|1]|6],(by intros;rfl)|28]|26],%[%[(@dw _ _ _ _)|11]|10],(@au _)|17],%[%[%[all,(eS rfl),%[%[(["axis", "to", "source", "some", "known", "pair"]),(1),(aC (aa pM) ["to", "source", "some", "known", "pair"] rfl rfl nofun),rfl,%[∅,T.z_range,%[%[len,ao,%[%[%[0|0],rfl|27]|1]|6]|1],∅|32],(λ _ _ _ _ _=>%[0,["axis", "to", "source", "some", "known", "pair"]|51]),(λ _ _ _ _ _=>(@aG _)),(λ _ _ _ _ _=>%[DQ,%[%[3|0],%[%[0|0]|1]|1]|3]),(by intros;rfl)|22]|1]|6]|11]|10]|9]|9]|9]|9],?_⟩;rw [show az ["to", "source", "some", "known", "pair"] [.ref u,.ref v,x]=[%[u|45],%[v|45],some (x),none,none] from rfl];clear G_A3 G_wG G_A8 G_DQ c8;have h8:ms.length<=8:=by rw [←m1,Rh];exact hA.1
  have n1:=aB f1 A λ b hb=>(hA.2 b hb).1;have n2:=aB f2 B λ b hb=>(hB.2 b hb).1;have b2:=hA.sizes;rw [m1] at n1 b2;rw [m2] at n2;exists m1;exists m2;exists c7;exists kk;exists hZ;exists bt;ac_rfl;intro d H1 d1 e1 bx;replace bx:Unit->pH P w H1 d []:=λ (_:Unit)=>bx;ac_rfl;rw [iN];refine⟨room,f1,f2,A,B,vu.ext e1,vv.ext e1,hA,hB,by rw [m1 (),m2 ()],by rw [m1 ()];omega,c7 (),λ l r2 fo zs H2 e2 d2 d3 cf bS b3=>?_⟩;rw [m1 ()] at cf;have cm:=nJ cf b3;have d4:=dt (af f1 A) (af f2 B) (af f2 B).length;have d5:((aP (af f1 A) (af f2 B) (af f2 B).length).map (rO ms)).length<=4096:=by rw [Rh];omega
  rw [hZ ()] at cm d5;have cS:=(bx ()).ext e2;have de:=e1.trans e2
  have d6:r2 ≠ d:=λ z=>by
   obtain⟨φ,hφ⟩:=Ku cS;rw [z,hφ] at bS;cases bS
  clear d3 cf b3 d4 d2 bx e1 e2 hZ;ac_rfl;refine cw (xs:=zs) (λ i σ H'=>∃ (Z':List PKy) (v4:Option V),σ=[%[u|45],%[v|45],some x,%[d|45],v4]/\Ext H H'/\H' r2=some (.lst zs)/\Al (PrV H') Z zs/\pH P w H' d Z'/\Z'.length=i/\∀ z,z∈Z.take i ↔ z∈Z') ⟨[],none,rfl,de,bS,cm,cS,rfl,λ z=>by rw [List.take_zero]⟩ (λ i σ H' _ ⟨_,_,_,_,h,_⟩=>h) ?_ ?_
  ·rintro i y _ H3 hi ⟨Z',v4,rfl,e3,cT,a7,a9,b4,aX⟩;have a5:i < Z.length:=by have:=(Rf.mp hi).1;rw [a7.1] at this;exact this
   obtain⟨z,hz⟩:∃ z,Z[i]? = some z:=⟨_,Rb a5⟩;have pz:=a7.2 i z y hz hi;have htk:Z.take (i+1)=Z.take i++[z]:=by rw [R7,hz];rfl
   obtain⟨φ,hφ⟩:=Ku a9;have bb:=pz;obtain⟨q,_,_,rfl,_⟩:=bb;have d7:=pz.pk
   have fin:∀ x,x∈Z.take (i+1) ↔ x∈z::Z':=λ x=>by
    rw [htk,RQ,Rg,Rz,aX x];exact or_comm
   exists fin;exists a7;exists a9;clear hi hz pz htk aX kk bt;simp! only [↓aD];refine KP (a9 ()) d7 (by rw [sizeLine_eq];omega) λ o d8=>?_;exact⟨z::Z',_,rfl,e3.put d1,by rw [ah d6];exact cT,(a7 ()).imp λ _ _ t=>CM t hφ,d8,by rw [Sy,b4],fin ()⟩
  ·rintro _ H3 ⟨Z',v4,rfl,e3,cT,a7,a9,b4,aX⟩;rw [a7.1,R6] at aX;have d9:=(bt ()).ext e3;have c0:=e3.at hu;have dy:=e3.at hD;have ea:=vu.ext e3;exists aX;exists a9;clear cT a7 bS cm cS de bt
   rcases d9 with ⟨rfl,(rfl|⟨_,rfl⟩|⟨_,rfl⟩)|⟨q,rfl,⟨xs,hq⟩|⟨kvs,hq⟩|hq⟩⟩|⟨q,ys,rfl,hq,fu,eb,aS⟩
   ·have k':=kk () H3 e3;clear kk;ac_rfl
   ·have k':=kk () H3 e3;clear kk;ac_rfl
   ·have k':=kk () H3 e3;clear kk;ac_rfl
   ·have k':=kk () H3 e3;clear kk;ac_rfl
   ·have k':=kk () H3 e3;clear kk;ac_rfl
   ·have k':=kk () H3 e3;clear kk;ac_rfl
   ·have fv:¬ (ys.length:Int)=0:=by omega
    have a3:∀ y∈ys,∃ c,KnT ms Z' H3 y c:=by
     rcases aS with ⟨Y,a4,a8,_⟩|⟨_,h,_⟩
     ·intro y hy;obtain⟨i,hi⟩:=Sw.mp hy;have a5:i < Y.length:=by have:=(Rf.mp hi).1;rw [a4.1] at this;exact this
      have pz:=a4.2 i Y[i] y (Rb a5) hi;have hm:=a8 Y[i] (SQ a5);have bb:=pz;obtain⟨q',_,_,rfl,_⟩:=bb;exact⟨_,.inl ⟨q',Y[i],rfl,pz.pk,hm.1,hm.2,rfl⟩⟩
     ·intro y hy;obtain⟨c,hc⟩:=h y hy;exact⟨c,hc.same (aX ())⟩
    obtain⟨cF,a6⟩:=Classical.axiomOfChoice (λ y:V=>(show ∃ c,y∈ys->KnT ms Z' H3 y c from by
     by_cases hy:y∈ys
     ·obtain⟨c,hc⟩:=a3 y hy;exact⟨c,λ _=>hc⟩
     ·exact⟨false,λ h=>absurd h hy⟩))
    exists a6;exists aS;clear a3;have wk:=xw (K:=K) hq;ac_rfl;refine aV ys (λ _=>true) (λ y=>.bl (cF y)) (λ z x H'=>x=z/\H' q=some (.lst ys)) wk.1 wk.2 (ak %[0|8]) ?_ ?_
    ·intro D' z y H' N1 N0 hz ec e ⟨hy,_⟩ k1 _;subst hy;have c2:=k1 rfl;have hc:=λ (_:Unit)=>(a6 () y hz).ext e;have fx:=e.at c0;have eg:=ea.ext e;have ei:=λ (_:Unit)=>(a9 ()).ext e;clear k1 kk wk hz a6 aS;simp! only [↓aL,↓aJ];rw [bA];refine⟨room,f1,A,eg,hA.1,λ r5 H5 ej e5 h5=>?_⟩;rw [m1 ()] at h5;clear ej;ac_rfl;rw [JD];exact⟨ms,Z',_,h5,b2,(hc ()).ext e5,(ei ()).ext e5,λ H6 e6=>c2 H6 (e5.trans e6)⟩
    intro D4 H4 el e4 h4;rw [ix] at h4;have dz:H4 D4=some (.lst ((ys.map cF).map V.bl)):=by rw [h4,Se];rfl
    have c4:=e3.trans e4;clear wk h4 el
    rcases aS () with ⟨Y,a4,a8,hb⟩|⟨hb,_,y0,b5,cb⟩
    ·have a3:((ys.map cF).all id)=Y.all λ z=>decide (z∈Z):=by
      rw [Vh];apply SE.mpr;rw [Sr,Sr]
      have key:∀ (i:Nat) (z:PP) (y:V),Y[i]? = some z->ys[i]? = some y->cF y=decide (z∈Z):=λ i z y hz hy=>by
       have pz:=a4.2 i z y hz hy;have hm:=a8 z (Rx hz);have hk:=a6 () y (Rx hy);have bb:=pz;obtain⟨q',_,_,rfl,_⟩:=bb;have c5:KnT ms Z' H3 (.ref q') (decide (z∈Z)):=.inl ⟨q',z,rfl,pz.pk,hm.1,hm.2,VB.mpr (aX () z)⟩
       cases hc:cF (.ref q') with
       | false=>rw [hc] at hk;exact(c5.odd hk).symm
       | true=>
        cases hd:decide (z∈Z) with
        | true=>rfl
        | false=>rw [hd] at c5;rw [hc] at hk;exact hk.odd c5
      constructor
      ·intro h z hz;obtain⟨i,hi⟩:=Sw.mp hz;have a5:i < ys.length:=by rw [a4.1];exact(Rf.mp hi).1
       have hy:=Rb a5;rw [←key i z _ hi hy];exact h _ (Rx hy)
      ·intro h y hy;obtain⟨i,hi⟩:=Sw.mp hy;have a5:i < Y.length:=by rw [←a4.1];exact(Rf.mp hi).1
       have hz:=Rb a5
       show cF y=true
       rw [key i _ y hz hi];exact h _ (Rx hz)
     generalize ys.map cF=bs at dz a3;have en:Y.length<=4096:=by rw [←a4.1];exact eb
     have ep:¬ Y=[]:=λ e=>by have:=a4.1;rw [e,Vj] at this;omega
     have et:=e4.at hq;have fy:=e4.at c0;have e9:=e4.at dy;have d0:=λ (_:Unit)=>a4.imp λ _ _ t=>PrV.ext t e4;have c6:rR ms.length Y:=λ z hz=>⟨(a8 z hz).1.len,(a8 z hz).2.len⟩
     cases b1:bs.all id with
     | false=>
      have ew:b=false:=by rw [hb];unfold FC;rw [←a3,b1,Bool.false_and]
      subst ew;have k':=kk () H4 c4;clear kk a3 hb a4 a8 a6 aS d0 c6;ac_rfl
     | true=>
      have ey:b=(List.range ms.length).all (eu Y):=by rw [hb];unfold FC;rw [←a3,b1,Bool.true_and]
      subst ey;exists c6;clear a3 hb a4 a8 a6 aS c0 dy hq;ac_rfl;refine⟨by omega,by omega,?_⟩;rw [Rt];refine aV (List.range ms.length) (λ _=>true) (λ j=>.bl (eu Y j)) (λ j x H'=>x=.int (0+(j:Nat))) di.1 di.2 (ak (by rw [RL];omega)) ?_ ?_
      ·intro D' j y H' N1 N0 hj ec e hy k1 _;subst hy;have f3:=RO.mp hj;have c2:=k1 rfl;have ez:=e.at et;have eH:=λ (_:Unit)=>(d0 ()).imp λ _ _ t=>PrV.ext t e;clear k1 kk hj;simp! only [↓aL,↓aJ];rw [ES];refine⟨Y,ys,ms.length,ez,eH (),en,ep,c6 (),by omega,by omega,h8,λ H6 e6=>?_⟩;rw [RZ,Rt];exact c2 H6 e6
      intro D5 H5 e0 e5 h5;rw [ix] at h5;have e7:H5 D5=some (.lst (((List.range ms.length).map (eu Y)).map V.bl)):=by rw [h5,Se];rfl
      have e8:(((List.range ms.length).map (eu Y)).all id)=(List.range ms.length).all (eu Y):=by rw [Vh];rfl
      have k':=kk () H5 (c4.trans e5);generalize ((List.range ms.length).map (eu Y))=f5 at e7 e8;clear h5 e0 kk;ac_rfl
    ·subst hb;have hf:cF y0=false:=(a6 () y0 b5).odd (cb.same (aX ()))
     have b1:((ys.map cF).all id)=false:=by
      rw [Vh,List.all_eq_false];exact⟨y0,b5,by show ¬ cF y0=true;rw [hf];decide⟩
     generalize ys.map cF=bs at dz b1;have k':=kk () H4 c4;clear kk a6 aS cb hf;ac_rfl
def kO{xs:List V}{i:Int}{k:V->Prop}(P:V->Prop)(h0:0<=i)(h1:i < xs.length)(ha:∀ v∈xs,P v)(hk:∀ v,P v->k v):aH (atI xs i) k:=yD h0 h1 λ v hv=>hk v (ha v hv)
def SzR(H:Hp)(v:V):Prop:=∃ (r:Addr) (ms:List Int),v=.ref r/\H r=%[ms|46]/\SzK ms/\ms ≠ []/\ms.length<=4
def SzR.mk1{H:Hp}{r:Addr}{a:Int}(h:H r=some (.lst [.int a]))(h1:1<=a)(h2:a<=4096):SzR H (.ref r):=
 ⟨r,[a],rfl,h,⟨by simp,λ m hm=>by rw [Rg.mp hm];omega,by show a * 1<=4096;omega⟩,by simp,by simp⟩
def SzR.mk2{H:Hp}{r:Addr}{a b:Int}(h:H r=some (.lst [.int a,.int b]))(h1:1<=a/\a<=4096)(h2:1<=b/\b<=4096)(h3:a * b<=4096):SzR H (.ref r):=
 ⟨r,[a,b],rfl,h,⟨by simp,λ m hm=>by
  rcases Rz.mp hm with rfl|hm
  ·exact h1
  ·rw [Rg.mp hm];exact h2,by show a * (b * 1)<=4096;rw [Ve];exact h3⟩,by simp,by simp⟩
def SzR.mk3{H:Hp}{r:Addr}{a b c:Int}(h:H r=some (.lst [.int a,.int b,.int c]))(h1:1<=a/\a<=4096)(h2:1<=b/\b<=4096)(h3:1<=c/\c<=4096)(h4:a * (b * c)<=4096):SzR H (.ref r):=
 ⟨r,[a,b,c],rfl,h,⟨by simp,λ m hm=>by
  rcases Rz.mp hm with rfl|hm
  ·exact h1
  ·rcases Rz.mp hm with rfl|hm
   ·exact h2
   ·rw [Rg.mp hm];exact h3,by show a * (b * (c * 1))<=4096;rw [Ve];exact h4⟩,by simp,by simp⟩
def SzR.ext{H H':Hp}{v:V}(h:SzR H v)(e:Ext H H'):SzR H' v:=let ⟨r,ms,h1,h2,h3⟩:=h;⟨r,ms,h1,e.at h2,h3⟩
def SzR.five{H H':Hp}{a b c d e:V}(h1:SzR H a)(h2:SzR H b)(h3:SzR H c)(h4:SzR H d)(h5:SzR H e)(x:Ext H H'):∀ v∈[a,b,c,d,e],SzR H' v:=by
 intro v hv;simp only [Rz,Rv,RV] at hv
 rcases hv with rfl|rfl|rfl|rfl|rfl
 ·exact h1.ext x
 ·exact h2.ext x
 ·exact h3.ext x
 ·exact h4.ext x
 ·exact h5.ext x
abbrev Fz(K:PySem.W.Frag)(a:Addr)(ns:List Int)(p:Addr)(H:Hp)(Q:VK)(E:XK):Prop:=p=a/\SqL K H a (ns.map V.int)/\ns.length<=63/\∀ (ms:List Int) (r:Addr) (H':Hp),Ext H H'->H' r=%[ms|46]->SzK ms->ms ≠ []->ms.length<=4->Q (.ref r) H'
def NH(K:W.Frag)(a:Addr)(ns:List Int):Sp:=λ vs H Q E=>∃ (p:Addr),vs=[.ref p]/\(Fz K a ns p H Q E)
def M9(K:W.Frag)(a:Addr)(ns:List Int)(p:Addr)(H:Hp)(Q:VK)(E:XK):NH K a ns [.ref p] H Q E=(Fz K a ns p H Q E):=lZ (f:=λ (p:Addr)=>[.ref p]) (λ _ _ h=>by cases h;exact rfl) p
def iT(T:Tx K mg t)(a:Addr)(ns:List Int):%[2,tZ|49] ["_law_script"] (NH K a ns):=by
 have G_DS:=%[gu|44] a ns;refine T.F_tZ.ok cP (λ _ _ _ _ h=>lX h λ _=>rfl) %[0|50]
 ·obtain⟨_,rfl,rfl,hS,hl,kk⟩:=h;rename_i a;refine⟨_,%[%[%[(cV hr.units),%[DS,%[%[0|0],%[%[0|2],%[%[0|2]|1]|1]|1]|3],%[0|2],(ar _)|15],%[%[%[cq,%[%[%[%[%[0|2],%[%[0|2]|1]|1]|18],%[%[%[%[0|2]|1]|18],%[%[%[%[0|2],%[%[0|2],%[%[0|2]|1]|1]|1]|18],%[%[%[%[0|2],%[%[0|2]|1]|1]|18],%[%[%[%[0|2],%[%[0|2],%[%[0|2],%[%[0|2]|1]|1]|1]|1]|18]|1]|1]|1]|1]|1]|18],%[DS,%[%[0|0],%[%[0|2],%[%[0|2]|1]|1]|1]|3],(λ _ _=>rfl)|12]|11]|10],(@au _)|17],%[%[1,cP,%[cv,%[0|2],%[DS,%[%[0|0],%[%[0|2],%[%[0|2]|1]|1]|1]|3]|13]|4],%[%[2,cP,%[cv,%[0|2],%[DS,%[%[0|0],%[%[0|2],%[%[0|2]|1]|1]|1]|3]|13]|4],%[%[%[cq,%[%[%[%[%[1|0]|1]|18],%[%[%[%[2|0],%[%[2|0]|1]|1]|18],%[%[%[%[0|2],%[%[cv,%[sL,%[1|0],%[0|2]|13],%[0|2]|13]|1]|1]|18],%[%[%[%[0|2],%[%[0|2],%[%[2|0]|1]|1]|1]|18],%[%[%[%[2|0],%[%[0|2],%[%[0|2]|1]|1]|1]|18]|1]|1]|1]|1]|1]|18],%[DS,%[%[0|0],%[%[0|2],%[%[0|2]|1]|1]|1]|3],(λ _ _=>rfl)|12]|11]|10]|9]|9]|9],?_⟩;rw [show az ["_law_script", "_law_one", "_law_other"] [.ref a]=[%[a|45],none,none] from rfl];clear G_DS;exists kk;ac_rfl;rw [b8];refine⟨hS,hl,⟨by decide,by decide⟩,by decide,λ d0 a5 a6=>?_⟩
  by_cases h1:d0=1
  ·subst h1;ac_rfl;intro p1 H1 _ e1 k1;have s1:=λ (_:Unit)=>SzR.mk2 k1 ⋯ ⋯ ⋯;clear k1;ac_rfl;intro p2 H2 _ e2 k2;have s2:=λ (_:Unit)=>SzR.mk1 k2 ⋯ ⋯;clear k2;ac_rfl;intro p3 H3 _ e3 k3;have s3:=λ (_:Unit)=>SzR.mk3 k3 ⋯ ⋯ ⋯ ⋯;clear k3;ac_rfl;intro p4 H4 _ e4 k4;have s4:=λ (_:Unit)=>SzR.mk2 k4 ⋯ ⋯ ⋯;clear k4;ac_rfl;intro p5 H5 _ e5 k5;have s5:Unit->SzR H5 (.ref p5):=λ _=>⟨p5,[8,8,8,8],rfl,k5,⟨by decide,by decide,by decide⟩,by decide,by decide⟩;clear k5;ac_rfl;intro p6 H6 _ e6 h6;have aS:=e3.trans (e4.trans (e5.trans e6));have aX:=e1.trans (e2.trans aS);have a3:=aX.2 K a _ hS;have sz:=λ (_:Unit)=>SzR.five ((s1 ()).ext (e2.trans aS)) ((s2 ()).ext aS) ((s3 ()).ext (e4.trans (e5.trans e6))) ((s4 ()).ext (e5.trans e6)) ((s5 ()).ext e6) (Ext.refl H6);clear s1 s2 s3 s4 s5 e1 e2 e3 e4 e5 e6 aS;ac_rfl;rw [b8];refine⟨a3,hl,⟨by decide,by decide⟩,by decide,λ z z0 z1=>?_⟩;ac_rfl;refine kO (SzR H6) z0 z1 (sz ()) λ v ⟨r,ms,hv,q1,q2,q3,q4⟩=>?_;subst hv;have k':=kk () ms r H6 aX q1 q2 q3 q4;clear kk sz;ac_rfl
  ·ac_rfl;rw [b8];refine⟨hS,hl,⟨by decide,by decide⟩,by decide,λ x x0 x1=>?_⟩;ac_rfl;rw [b8];refine⟨hS,hl,⟨by decide,by decide⟩,by decide,λ y y0 y1=>?_⟩;have a4:(8+y) * (8+y)<=19 * 19:=U9 %[0|8] %[0|8] %[0|8] ⋯;exists a4;ac_rfl;intro p1 H1 _ e1 k1;have s1:=λ (_:Unit)=>SzR.mk1 k1 %[0|8] %[0|8];clear k1;ac_rfl;intro p2 H2 _ e2 k2;have s2:=λ (_:Unit)=>SzR.mk2 k2 %[0|8] %[0|8] (by have:=a4 ();omega);clear k2;ac_rfl;intro p3 H3 _ e3 k3;have s3:=λ (_:Unit)=>SzR.mk2 k3 %[0|8] %[0|8] %[0|8];clear k3;ac_rfl;intro p4 H4 _ e4 k4;have s4:=λ (_:Unit)=>SzR.mk3 k4 %[0|8] %[0|8] %[0|8] %[0|8];clear k4;ac_rfl;intro p5 H5 _ e5 k5;have s5:=λ (_:Unit)=>SzR.mk3 k5 %[0|8] %[0|8] %[0|8] %[0|8];clear k5;ac_rfl;intro p6 H6 _ e6 h6;have aS:=e3.trans (e4.trans (e5.trans e6));have aX:=e1.trans (e2.trans aS);have a3:=aX.2 K a _ hS;have sz:=λ (_:Unit)=>SzR.five ((s1 ()).ext (e2.trans aS)) ((s2 ()).ext aS) ((s3 ()).ext (e4.trans (e5.trans e6))) ((s4 ()).ext (e5.trans e6)) ((s5 ()).ext e6) (Ext.refl H6);clear s1 s2 s3 s4 s5 e1 e2 e3 e4 e5 e6 aS;ac_rfl;rw [b8];refine⟨a3,hl,⟨by decide,by decide⟩,by decide,λ z z0 z1=>?_⟩;ac_rfl;refine kO (SzR H6) z0 z1 (sz ()) λ v ⟨r,ms,hv,q1,q2,q3,q4⟩=>?_;subst hv;have k':=kk () ms r H6 aX q1 q2 q3 q4;clear kk sz;ac_rfl
def xj(ms qs:List Int):Prop:=qs.length=ms.length/\∀ q∈qs,(q.natAbs:Int)<=4096
def xj.bound{ms qs:List Int}(h:xj ms qs)(hs:SzK ms):aY (ms.zip qs) - bw (ms.zip qs)<=134184960/\bw (ms.zip qs)<=0/\0<=aY (ms.zip qs):=by
 have one:∀ m∈ms,(1:Int)<=m:=λ m hm=>(hs.pos.1 m hm).1;obtain⟨b1,b2,b3,_⟩:=uI ms qs one h.1;have hb:=p9 ms qs 4096 one h.1 h.2 ⋯;have ht:=yp (k:=4095) ⋯ ms hs.pos.1;have:=hs.pos.2.1;exact⟨by omega,b2,b3⟩
def xj.set{ms qs:List Int}{x:Nat}(h:xj ms qs)(hx:x < qs.length):xj ms (qs.set x (0 - qs.getD x 0)):=by
 refine⟨by rw [Th];exact h.1,λ q hq=>?_⟩
 rcases List.mem_or_eq_of_mem_set hq with hq|rfl
 ·exact h.2 q hq
 ·have:=h.2 (qs.getD x 0) (by rw [List.getD,Rb hx];exact SQ hx);omega
def xj.turn{ms qs:List Int}{x:Nat}(h:xj ms qs):xj ms (qs.drop x++qs.take x):=by
 refine⟨by rw [RI,R0,Ui];have:=h.1;omega,λ q hq=>?_⟩
 rcases RQ.mp hq with hq|hq
 ·exact h.2 q (Tt hq)
 ·exact h.2 q (Sk hq)
def CB{ms ps:List Int}{i:Nat}{s u p:Int}(hi:i < ms.length)(h:pG (ms.drop (ms.length - i)) ps)(hu:u=ae (ms.drop (ms.length - i)))(hs:ms.getD (ms.length - 1 - i) 0=s)(hp:(p.natAbs:Int)=u):pG (ms.drop (ms.length - (i+1))) (p::ps)/\u * s=ae (ms.drop (ms.length - (i+1))):=by
 have hd:ms.drop (ms.length - (i+1))=s::ms.drop (ms.length - i):=by
  have h1:ms.length - (i+1) < ms.length:=by omega
  rw [Tz h1,show ms.length - (i+1)+1=ms.length - i by omega];congr 1;rw [←hs,show ms.length - 1 - i=ms.length - (i+1) by omega,List.getD,Rb h1];rfl
 rw [hd];refine⟨⟨by rw [hp,hu],h⟩,?_⟩
 show u * s=s * ae _
 rw [hu,SW]
def FsR(H:Hp)(a b:Int)(v:V):Prop:=∃ (r:Addr) (x y:Int),v=.ref r/\H r=some (.lst [.int x,.int y])/\(a<=x/\x<=a+70)/\(b<=y/\y<=b+70)
abbrev qN(K:PySem.W.Frag)(a:Addr)(ns:List Int)(C:Addr)(p:Addr)(l:Addr)(H:Hp)(Q:VK)(E:XK):Prop:=p=a/\SqL K H a (ns.map V.int)/\ns.length<=63/\∃ ms:List Int,H l=%[ms|46]/\SzK ms/\ms ≠ []/\ms.length<=4/\∀ (room f1 f2:Int) (ps qs:List Int) (x1 x2 c1 c2 r:Addr) (H':Hp),Ext H H'->H' r=some (.tup [.ref x1,.ref x2,.ref c1,.ref c2])->aE C H' x1 room f1 ((ms.zip ps).map aN)->aE C H' x2 room f2 ((ms.zip qs).map aN)->H' c1=some (.lst ((af f1 (ms.zip ps)).map V.int))->H' c2=some (.lst ((af f2 (ms.zip qs)).map V.int))->JS ms room f1 ps->JS ms room f2 qs->1<=room->(af f1 (ms.zip ps)).Nodup->Q (.ref r) H'
def sj(K:W.Frag)(a:Addr)(ns:List Int)(C:Addr):Sp:=λ vs H Q E=>∃ (p:Addr) (l:Addr),vs=[.ref p,.ref l]/\(qN K a ns C p l H Q E)
def Bz(K:W.Frag)(a:Addr)(ns:List Int)(C:Addr)(p:Addr)(l:Addr)(H:Hp)(Q:VK)(E:XK):sj K a ns C [.ref p,.ref l] H Q E=(qN K a ns C p l H Q E):=iu (f:=λ (p:Addr) (l:Addr)=>[.ref p,.ref l]) (λ _ _ _ _ h=>by cases h;exact⟨rfl,rfl⟩) p l
def oR(T:Tx K mg t)(a:Addr)(ns:List Int):%[8,DL|49] ["_law_script", "_law_sizes"] (sj K a ns t.a_V3):=by
 have G_DS:=%[gu|44] a ns;have G_Bf:=%[oT|44];have G_DT:=%[rn|44];have G_DI:=%[oV|44];have G_wC:=%[fS|44];refine T.F_DL.ok av (λ _ _ _ _ h=>iw h λ _ _=>rfl) %[0|50]
 ·obtain⟨_,l,rfl,rfl,hS,hl,ms,hm,hsz,fu,h4,kk⟩:=h;rename_i a;refine⟨_,%[%[2,av,%[(@cU _)|18]|4],%[%[3,av,%[0|2]|4],%[%[RA,rfl,%[∅,T.z_range,%[%[len,ao,%[%[1|0]|1]|6]|1],∅|32],%[4,av|5],%[%[5,av,%[cq,%[1|0],%[eL,%[eL,%[len,ao,%[%[1|0]|1]|6],%[0|2]|13],%[4|0]|13],(λ _ _=>rfl)|12]|4],%[%[2,av,%[nK,%[%[%[eM,%[3|0],%[cq,%[%[%[0|2],%[(@xo _ _ _ _ _ _ ki %[0|2])|1]|1]|18],%[DS,%[%[0|0],%[%[cv,%[0|2],%[4|0]|13],%[%[0|2]|1]|1]|1]|3],(λ _ _=>rfl)|12]|13]|1]|18],%[2|0]|13]|4],%[%[3,av,%[eM,%[3|0],%[5|0]|13]|4]|10]|9]|9],(by intros;rfl)|21],%[%[6,av,%[du,∅,T.z_list,nofun,%[%[2|0]|1],⋯,⋯,∅,∅|38]|4],%[%[7,av,%[DS,%[%[0|0],%[%[0|2],%[%[0|2]|1]|1]|1]|3]|4],%[%[4,av,%[DS,%[%[0|0],%[%[0|2],%[%[len,ao,%[%[1|0]|1]|6]|1]|1]|1]|3]|4],%[%[%[(cV hr.units),%[7|0],%[0|2],(ar _)|15],%[(@pN _ _ _ _ _ _ %[eL,%[0|2],%[cq,%[6|0],%[4|0],(λ _ _=>rfl)|12]|13] (@ur _ _ _ _ _ _ _ %[6|0] %[4|0] jO (by intros;rfl)) ∅ ∅ ∅)|10],(@au _)|17],%[%[(PW.pt %[%[(cV hr.units),%[7|0],%[0|2],(ar _)|15],(@i9 _ _ _ _ %[(cV hr.units),%[min,(gN rfl),%[%[1|0]|1]|6],%[max,(gO rfl),%[%[1|0]|1]|6],(ar _)|15])|42]),%[%[6,av,%[nK,%[JU,%[6|0],(@gX _ _ _ %[4|0]),(@gY _)|41],%[JU,%[6|0],(@gY _),(@gX _ _ _ %[4|0])|41]|13]|4]|10],(@au _)|17],%[%[8,av,%[eL,%[0|2],%[Bf,%[%[1|0],%[%[2|0]|1]|1]|3]|13]|4],%[%[9,av,%[eL,%[0|2],%[Bf,%[%[1|0],%[%[6|0]|1]|1]|3]|13]|4],%[%[10,av,%[DS,%[%[0|0],%[%[0|2],%[%[cq,%[%[%[0|2],%[%[0|2]|1]|1]|18],%[DS,%[%[0|0],%[%[0|2],%[%[0|2]|1]|1]|1]|3],(λ _ _=>rfl)|12]|1]|1]|1]|3]|4],%[%[11,av,%[cq,%[%[%[%[%[cv,%[8|0],%[10|0]|13],%[%[9|0]|1]|1]|18],%[%[%[%[8|0],%[%[cv,%[9|0],%[10|0]|13]|1]|1]|18]|1]|1]|18],%[DS,%[%[0|0],%[%[0|2],%[%[0|2]|1]|1]|1]|3],(λ _ _=>rfl)|12]|4],%[%[12,av,%[cv,%[max,(lh rfl),%[%[cv,%[cq,%[11|0],%[0|2],(λ _ _=>rfl)|12],%[DT,%[%[1|0],%[%[2|0]|1]|1]|3]|13],%[%[cv,%[cq,%[11|0],%[0|2],(λ _ _=>rfl)|12],%[DT,%[%[1|0],%[%[6|0]|1]|1]|3]|13]|1]|1]|6],%[0|2]|13]|4],%[%[13,av,%[T.mk_View,G_wC,(hr.mono ⋯),∅,T.m_V3,T.b_wC,.nil,aW,%[%[12|0],%[%[cq,%[11|0],%[0|2],(λ _ _=>rfl)|12],%[(@jm _ _ _ _ _ _ _ _ rfl ∅ T.z_list ∅ T.z_zip %[%[1|0],%[%[2|0]|1]|1] ∅ ∅ ∅ ∅)|1]|1]|1],⋯,∅,∅|43]|4],%[%[14,av,%[T.mk_View,G_wC,(hr.mono ⋯),∅,T.m_V3,T.b_wC,.nil,aW,%[%[12|0],%[%[cq,%[11|0],%[0|2],(λ _ _=>rfl)|12],%[(@jm _ _ _ _ _ _ _ _ rfl ∅ T.z_list ∅ T.z_zip %[%[1|0],%[%[6|0]|1]|1] ∅ ∅ ∅ ∅)|1]|1]|1],⋯,∅,∅|43]|4],%[%[%[%[%[13|0],%[%[14|0],%[%[DI,%[%[cq,%[11|0],%[0|2],(λ _ _=>rfl)|12],%[%[1|0],%[%[2|0]|1]|1]|1]|3],%[%[DI,%[%[cq,%[11|0],%[0|2],(λ _ _=>rfl)|12],%[%[1|0],%[%[6|0]|1]|1]|1]|3]|1]|1]|1]|1]|29]|11]|10]|9]|9]|9]|9]|9]|9]|9]|9]|9]|9]|9]|9]|9]|9]|9],?_⟩;rw [show az ["_law_script", "_law_sizes", "_law_paces", "_law_unit", "_law_k", "_law_size", "_law_others", "_law_way", "_law_first", "_law_begin", "_law_step", "_law_firsts", "_law_room", "_law_one", "_law_other"] [.ref a,.ref l]=[%[a|45],%[l|45],none,none,none,none,none,none,none,none,none,none,none,none,none] from rfl];clear G_DS G_Bf G_DT G_DI G_wC;have h8:=hsz.pos.2.1;have fv:=hsz.pos.2.2;have m6:=λ (_:Unit)=>hsz.pos.1;have fx:0 < ms.length:=Vd.mpr fu;have one:∀ m∈ms,(1:Int)<=m:=λ m hm=>(hsz.pos.1 m hm).1;exists one;exists kk;exists hsz;clear fu;ac_rfl;intro r0 H1 _ e1 h1;have fy:=e1.at hm;ac_rfl;refine⟨by omega,by omega,?_⟩;refine gZ (λ i σ H'=>∃ (r:Addr) (ps:List Int) (u:Int) (v4 v5:Option V),σ=[%[a|45],%[l|45],%[r|45],%[u|47],v4,v5,none,none,none,none,none,none,none,none,none]/\Ext H H'/\H' r=%[ps|46]/\pG (ms.drop (ms.length - i)) ps/\u=ae (ms.drop (ms.length - i))) ⟨r0,[],1,none,none,rfl,e1,h1,by rw [Vx,VH];trivial,by rw [Vx,VH];rfl⟩ ?_ ?_
  ·rintro i _ H2 hi ⟨r,ps,u,v4,v5,rfl,e2,h2,a3,hu⟩;have hR:i < ms.length:=by have:i < ((ms.length:Int)).toNat:=hi;omega
   have c7:=e2.at hm;have b1:=e2.2 K a _ hS;have f3:=dC (vals:=ms) (c:=(ms.length:Int) - 1 - (0+(i:Int))) %[0|8] %[0|8];rw [show ((ms.length:Int) - 1 - (0+(i:Int))).toNat=ms.length - 1 - i by omega] at f3;have bb:=λ (p:Int) hp=>CB (p:=p) hR a3 hu rfl hp;have hT:=bJ (ms.drop (ms.length - i)) λ m hm=>one () m (Tt hm)
   have j7:u<=4096:=by
    have:=bJ (ms.take (ms.length - i)) λ m hm=>one () m (Sk hm);have e:=aT (ms.take (ms.length - i)) (ms.drop (ms.length - i));rw [UX] at e;have:=R5 this (show 0<=ae (ms.drop (ms.length - i)) by omega);omega
   rw [←hu] at hT;have a4:ps.length<=8:=by rw [a3.len,Ui];omega
   have f5:=m6 () _ (km (ms:=ms) (c:=((ms.length - 1 - i:Nat):Int)) %[0|8] %[0|8]);rw [Rt] at f5;generalize ms.getD (ms.length - 1 - i) 0=sz at f3 f5 bb;have cm:pI u sz:=.inr ⟨by omega,by omega⟩;exists bb;clear hi a3 hu h1 fy kk;simp! only [↓aD];intro q3 H3 _ e3 h3;have bx:=e3.2 K a _ b1;ac_rfl;rw [b8];refine⟨bx,hl,⟨by omega,by omega⟩,by decide,λ z z0 z1=>?_⟩;ac_rfl;refine kP (λ j=>j=1\/j=-1) z0 z1 (λ v hv=>?_) λ j hj=>?_
   ·simp only [Rz,Rv,RV] at hv
    rcases hv with rfl|rfl
    ·exact⟨_,rfl,.inl rfl⟩
    ·exact⟨_,rfl,.inr rfl⟩
   have f6:((u * j).natAbs:Int)=u:=by
    rcases hj with rfl|rfl
    ·rw [Ve];omega
    ·omega
   have kc:pI u j:=.inl ⟨by omega,by omega⟩;have fin:=λ (_:Unit)=>bb () (u * j) f6;clear hj f6 bb h3;ac_rfl;intro q4 H4 _ e4 hW;have f7:=e3.trans e4;have f9:=f7.at h2;clear h2 c7 b1 bx;ac_rfl;refine⟨ak %[0|8],?_⟩;intro q5 H5 _ e5 h5;clear hW f9;ac_rfl;exact⟨q5,u * j::ps,_,_,_,rfl,(e2.trans f7).trans e5,h5,(fin ()).1,(fin ()).2⟩
  rintro _ H2 ⟨r,ps,u,v4,v5,rfl,e2,h2,a3,hu⟩;rw [show ms.length - ((ms.length:Int)).toNat=0 by omega,VJ] at a3 hu;have c7:=e2.at hm;have b1:=e2.2 K a _ hS;have a4:=a3.len;have bS:=λ (_:Unit)=>a3.inj (one ());have b2:xj ms ps:=⟨a4,λ p hp=>by have:=a3.le (one ()) p hp;omega⟩;exists b2;exists a4;clear a3 hu h1 fy;ac_rfl;intro q H3 d5 e3 h3;have d6:=e2.trans e3;have gm:H q=none:=e2.free d5;have gp:r ≠ q:=λ z=>by rw [z,d5] at h2;cases h2
  have hX:=e3.at c7;have bx:=e3.2 K a _ b1;have b3:=e3.at h2;clear h2 c7 b1 d5;ac_rfl;rw [b8];refine⟨bx,hl,⟨by decide,by decide⟩,by decide,λ wy w0 w1=>?_⟩;ac_rfl;rw [b8];refine⟨bx,hl,⟨by decide,by decide⟩,by omega,λ k k0 k1=>?_⟩;simp! only [-pQ];refine uy (λ σ' H'=>∃ (qs:List Int),σ'=[%[a|45],%[l|45],%[r|45],%[u|47],%[k|47],v5,%[q|45],%[wy|47],none,none,none,none,none,none,none]/\Ext H H'/\H' r=%[ps|46]/\H' q=%[qs|46]/\xj ms qs) (λ hY hn=>?_) ?_
  ·exists hn
   by_cases hw:wy=1
   ·have hZ:k.toNat < ps.length:=by have:=a4 ();omega
    have a1:=dC (vals:=ps) (c:=k) k0 %[0|8];have a2:ixN ps.length k=some k.toNat:=B7 k0 %[0|8];have fin:=λ (_:Unit)=>(b2 ()).set hZ;subst hw;clear kk bS;ac_rfl;rw [oz];have a6:=hn () [%[a|45],%[l|45],%[r|45],%[u|47],%[k|47],v5,%[q|45],some (.int 1),none,none,none,none,none,none,none] _ ⟨_,rfl,d6.put gm,by rw [ah gp];exact b3,aq,fin ()⟩;clear hn;ac_rfl
   ·have a6:=hn () [%[a|45],%[l|45],%[r|45],%[u|47],%[k|47],v5,%[q|45],%[wy|47],none,none,none,none,none,none,none] H3 ⟨ps,rfl,d6,b3,h3,b2 ()⟩;clear hn kk bS;ac_rfl
  rintro _ H4 ⟨qs,rfl,e4,d7,d8,a5⟩;have gs:=e4.at hm;exists a5;clear e3 d6 hX bx b3 h3;simp! only [-pQ];refine uy (λ σ' H'=>∃ (q:Addr) (qs:List Int),σ'=[%[a|45],%[l|45],%[r|45],%[u|47],%[k|47],v5,%[q|45],%[wy|47],none,none,none,none,none,none,none]/\Ext H H'/\H' r=%[ps|46]/\H' q=%[qs|46]/\xj ms qs) (λ hY hn=>?_) ?_
  ·exists hn;have a6:=λ (_:Unit)=>hn () [%[a|45],%[l|45],%[r|45],%[u|47],%[k|47],v5,%[q|45],%[wy|47],none,none,none,none,none,none,none] H4 ⟨q,qs,rfl,e4,d7,d8,a5 ()⟩
   by_cases hw:wy=2
   ·subst hw;ac_rfl;rw [kh];refine⟨fx,λ M _ _=>?_⟩;ac_rfl;rw [nB];refine⟨fx,λ N _ _=>?_⟩
    by_cases hmn:M=N
    ·have ct:=uA (qs.map V.int) k k0;have cf:=EG (qs.map V.int) k k0;have b4:qs.length<=8:=by have:=(a5 ()).1;omega
     clear a6 kk bS;ac_rfl;intro q5 H5 _ e5 h5;have gW:=e5.at d8;clear gs;ac_rfl;intro q6 H6 _ e6 h6;have d0:=e6.at h5;clear h5 gW;refine GK d0 h6 (ak (by rw [R0,Ui,Rh];omega)) ?_;intro q7 H7 _ e7 h7;have g0:=e5.trans (e6.trans e7);have d1:=hn () [%[a|45],%[l|45],%[r|45],%[u|47],%[k|47],v5,%[q7|45],some (.int 2),none,none,none,none,none,none,none] H7 ⟨q7,qs.drop k.toNat++qs.take k.toNat,rfl,e4.trans g0,g0.at d7,by rw [h7,SI,Vm,List.map_drop],(a5 ()).turn⟩;clear hn d0 h6 h7;ac_rfl
    ·have d1:=a6 ();clear a6 hn kk bS;ac_rfl
   ·have d1:=a6 ();clear a6 hn kk bS;ac_rfl
  clear d8 a5 gs e4 d7 gp gm;rintro _ H5 ⟨q5,aS,rfl,e5,d9,ea,a5⟩;obtain⟨ih,ij,il⟩:=(b2 ()).bound (hsz ());obtain⟨ip,iv,iz⟩:=a5.bound (hsz ());have b4:=λ (_:Unit)=>a5.1;have c8:=e5.at hm;have g5:=e5.2 K a _ hS;clear a5 b2 H4 qs q hS;ac_rfl;rw [yZ];refine⟨ms,ps,c8,d9,m6 (),h8,a4 (),λ H6 e6=>?_⟩;ac_rfl;rw [yZ];refine⟨ms,aS,e6.at c8,e6.at ea,m6 (),h8,b4 (),λ H7 e7=>?_⟩;have eb:=e6.trans e7;have hb:=eb.2 K a _ g5;clear e6 e7;ac_rfl;intro q8 H8 _ e8 i0;have de:=e8.2 K a _ hb;ac_rfl;rw [b8];refine⟨de,hl,⟨by decide,by decide⟩,by decide,λ y y0 y1=>?_⟩;ac_rfl;refine kP (λ j=>0 < j/\j<=70) y0 y1 (λ v hv=>?_) λ j hj=>?_
  ·simp only [Rz,Rv,RV] at hv
   rcases hv with rfl|rfl<;>exact⟨_,rfl,by decide⟩
  clear i0 hb;ac_rfl;rw [b8];refine⟨de,hl,⟨by decide,by decide⟩,hj.1,λ st s0 s1=>?_⟩;obtain⟨fa,hfa⟩:∃ f,0 - bw (ms.zip ps)=f:=⟨_,rfl⟩;obtain⟨fb,hfb⟩:∃ f,0 - bw (ms.zip aS)=f:=⟨_,rfl⟩;rw [hfa,hfb];ac_rfl;intro q9 H9 _ e9 h9;ac_rfl;intro hc kn _ ec hg;have b5:=ec.at h9;clear h9;ac_rfl;intro kv ei _ dy i1;have ej:=e9.trans (ec.trans dy);have d2:=ej.2 K a _ de;have el:FsR ei fa fb (.ref q9):=⟨q9,fa+st,fb,rfl,dy.at b5,by omega,by omega⟩;have en:FsR ei fa fb (.ref hc):=⟨hc,fa,fb+st,rfl,dy.at hg,by omega,by omega⟩;exists el;exists en;clear b5 hg e9 ec dy de;ac_rfl;rw [b8];refine⟨d2,hl,⟨by decide,by decide⟩,by decide,λ z z0 z1=>?_⟩;ac_rfl;refine kO (FsR ei fa fb) z0 z1 (λ v hv=>?_) λ v hv=>?_
  ·simp only [Rz,Rv,RV] at hv
   rcases hv with rfl|rfl
   ·exact el ()
   ·exact en ()
  obtain⟨fr,f1,f2,rfl,hh,lo1,i2⟩:=hv;have cb:=eb.trans (e8.trans ej);have bt:=cb.at c8;have a7:=cb.at d9;have a8:=cb.at ea;clear i1 d2 el en c8 d9 ea g5 eb e8 ej;ac_rfl;rw [yY];refine⟨ms,ps,bt,a7,m6 (),h8,a4 (),λ kx cF=>?_⟩;have a9:=cF.at hh;ac_rfl;rw [yY];refine⟨ms,aS,cF.at bt,cF.at a8,m6 (),h8,b4 (),λ ky ep=>?_⟩;have aX:=cF.trans ep;have et:=ep.at a9;have cS:=aX.at bt;have ew:=aX.at a7;have cT:=aX.at a8;obtain⟨la,hla⟩:∃ la,(if f1+aY (ms.zip ps) < f2+aY (ms.zip aS) then f2+aY (ms.zip aS) else f1+aY (ms.zip ps))=la:=⟨_,rfl⟩
  have i3:f1+aY (ms.zip ps)<=la/\f2+aY (ms.zip aS)<=la/\la<=1000000000:=by
   rw [←hla]
   split<;>omega
  have hk:=e5.trans (cb.trans aX);clear bt a7 a8 hh a9 cF ep e5 cb aX;ac_rfl;obtain⟨room,hroom⟩:∃ r,la+1=r:=⟨_,rfl⟩;rw [hroom];have ey:1<=room:=by omega
  have ho:room<=1000000000000000000:=by omega
  have o1:JS ms room f1 ps:=⟨a4 (),by omega,by omega⟩;have o2:JS ms room f2 aS:=⟨b4 (),by omega,by omega⟩;have v1:=o1.view (hsz ()) ey ho;have v2:=o2.view (hsz ()) ey ho;exists o1;exists o2;clear hla i3 lo1 i2 ih ij il ip iv iz hroom hfa hfb;ac_rfl;rw [FE];intro D1 i4 i5 i7 dz hq d3;have hs:=yi d3;have d4:=dz.at cS;have c0:=dz.at cT;have c3:=dz.at et;clear d3 i7;ac_rfl;intro x1 ht G1 hy hA hB g1 hC hD;rw [ll];refine⟨ht,ms.zip ps,hC,aR.ext ⟨i4,hq,hs⟩ g1,v1,λ G2 D2 hE jz c4 hF=>?_⟩;have eg:=hE i5 g1 hy;have ez:aE t.a_V3 G2 x1 room f1 ((ms.zip ps).map aN):=⟨ht,D2,c4,hF⟩;have j0:=dz.trans eg;have hI:=eg.at d4;have eH:=eg.at c0;have c5:=eg.at c3;clear hq hs d4 c0 c3 hC hD hy hA hB g1 hE jz c4 hF eg;ac_rfl;rw [FE];intro D3 j1 G3 j2 g3 k3 hK;have t3:=yi hK;clear hK j2;ac_rfl;intro x2 hL G4 c4 hM hN g4 k4 j3;rw [ll];refine⟨hL,ms.zip aS,k4,aR.ext ⟨j1,k3,t3⟩ g4,v2,λ G5 D5 hO j4 hP hQ=>?_⟩;have e0:=g3.trans (hO G3 g4 c4);have j5:aE t.a_V3 G5 x2 room f2 ((ms.zip aS).map aN):=⟨hL,D5,hP,hQ⟩;have c6:=j0.trans e0;have fo:=e0.at c5;replace ez:=ez.ext e0;clear k3 t3 k4 j3 c4 hM hN g4 hO j4 hP hQ hI eH c5;ac_rfl;rw [zc];refine⟨ms,ps,c6.at cS,c6.at ew,m6 (),h8,a4 (),fv,λ c1 G6 g6 k6=>?_⟩;have a9:=g6.at fo;ac_rfl;rw [zc];refine⟨ms,aS,(c6.trans g6).at cS,(c6.trans g6).at cT,m6 (),h8,b4 (),fv,λ c2 G7 g7 k7=>?_⟩;ac_rfl;intro rr G8 kE g8 k8;exact kk () room f1 f2 ps aS x1 x2 c1 c2 rr G8 (hk.trans (c6.trans (g6.trans (g7.trans g8)))) k8 (ez.ext (g6.trans (g7.trans g8))) (j5.ext (g6.trans (g7.trans g8))) ((g7.trans g8).at k6) (g8.at k7) (o1 ()) (o2 ()) ey ((bS ()).nodup (λ n hn=>by have:=m6 () n hn;omega) (a4 ()) f1)
def BR(Z Y:List PP)(n:Nat):Bool:=!Y.isEmpty && FC Z Y n
def JG{Y:List PP}{a:Nat}{M N:Int}(h1:nA (Y.map λ z=>bq z.1 z.2 a) M)(h2:rZ (Y.map λ z=>bq z.1 z.2 a) N):eu Y a=(decide (M < 0) == decide (0 < N)):=by
 have hle:=MinMax.le h1 h2;rw [zd h1 h2]
 by_cases hm:M < 0
 ·by_cases hn:0 < N
  ·rw [Rp hm,Rp hn,Rp (.inl ⟨hm,hn⟩)];rfl
  ·rw [Rp hm,Ry hn,Ry %[0|8]];rfl
 ·by_cases hn:0 < N
  ·rw [Ry hm,Rp hn,Ry %[0|8]];rfl
  ·rw [Ry hm,Ry hn,Rp %[0|8]];rfl
def Jz(Y:List PP):PyData.eqvAll (Y.map prD) []=Y.isEmpty:=by
 cases Y with
 | nil=>rw [Vg,cK];rfl
 | cons z Y=>rw [Sh,uW];rfl
def oM{ms:List Int}{Z Y:List PP}{H:Hp}{q:Addr}{ys:List V}(h:H q=some (.lst ys))(al:Al (PrV H) Y ys)(hl:Y.length<=4096)(aS:∀ z∈Y,InR ms z.1/\InR ms z.2):xu ms Z H (.ref q) (BR Z Y ms.length):=by
 cases Y with
 | nil=>
  have:ys=[]:=Sf al.1;subst this;exact .inl ⟨rfl,.inr ⟨q,rfl,.inr (.inr h)⟩⟩
 | cons z Y=>
  refine .inr ⟨q,ys,rfl,h,by rw [al.1,length_cons];omega,by rw [al.1];exact hl,.inl ⟨z::Y,al,aS,?_⟩⟩;unfold BR;rfl
def BK{Z L Y:List PP}{n:Nat}(hb:jH L Y n)(aX:mF n L)(aS:∀ z∈L,z∈Z)(hY:¬ Y=[]):BR Z Y n=true:=by
 have a3:=hb.both aX;unfold BR FC
 have h1:Y.isEmpty=false:=by cases Y with
  | nil=>exact absurd rfl hY
  | cons _ _=>rfl
 rw [h1,Sr.mpr λ z hz=>Rp (aS z (hb.1 z hz)),Sr.mpr λ a ha=>?_]
 ·rfl
 ·unfold eu;rw [Bool.or_eq_true,Bool.and_eq_true,all_eq_true,any_eq_true,any_eq_true]
  rcases a3 a (RO.mp ha) with h|⟨⟨z,hz,hg⟩,y,hy,a4⟩
  ·exact .inl λ z hz=>Rp (h z hz)
  ·exact .inr ⟨⟨z,hz,Rp hg⟩,y,hy,Rp a4⟩
def hbB(Y:List PP)(n:Nat):Bool:=!Y.isEmpty && (List.range n).all (eu Y)
def u9{Z Y:List PP}{n:Nat}(h:∀ z∈Y,z∈Z):BR Z Y n=hbB Y n:=by
 unfold BR FC hbB;rw [all_eq_true.mpr λ z hz=>decide_eq_true (h z hz),Bool.true_and]
abbrev vt  (l:Addr) (n:Int) (H:Hp) (Q:VK) (E:XK):Prop:=∃ (Y:List PP) (ys:List V) (m:Nat),n=(m:Int)/\m<=8/\H l=some (.lst ys)/\Al (PrV H) Y ys/\Y.length<=4096/\rR m Y/\∀ H',Ext H H'->Q (.bl (hbB Y m)) H'
def xO  : Sp:=λ vs H Q E=>∃ (l:Addr) (n:Int),vs=[.ref l,.int n]/\(vt  l n H Q E)
def u5  (l:Addr) (n:Int) (H:Hp) (Q:VK) (E:XK):xO  [.ref l,.int n] H Q E=(vt  l n H Q E):=iu (f:=λ (l:Addr) (n:Int)=>[.ref l,.int n]) (λ _ _ _ _ h=>by cases h;exact⟨rfl,rfl⟩) l n
def fR(T:Tx K mg t):%[1,wH|49] ["_law_some", "_law_axes"] xO:=by
 refine T.F_wH.ok dO (λ _ _ _ _ h=>iw h λ _ _=>rfl) %[0|50]
 ·obtain⟨l,_,rfl,Y,ys,m,rfl,m8,hl,aS,cS,a7,kk⟩:=h;refine⟨_,%[%[%[(cV hr.units),%[0|0],%[(@cU _)|18],(ar _)|15],%[%[(@dw _ _ _ _)|11]|10],(@au _)|17],%[%[RA,rfl,%[∅,T.z_range,%[%[1|0]|1],∅|32],%[(2),_,dO.nd,rfl,(Or.inr rfl),%[0|7]|14],%[%[(["_law_pair", "_law_some", "_law_axes", "_law_axis", "_law_along"]),(1),(3),_,dO.nd,rfl,(Or.inl rfl),(aC (aa cA) ["_law_some", "_law_axes", "_law_axis", "_law_along"] rfl rfl nofun),rfl,%[%[0|0]|19],(λ _ _ _ _ _=>%[0,["_law_pair", "_law_some", "_law_axes", "_law_axis", "_law_along"]|51]),(λ _ _ _ _ _=>(@aG _)),(λ _ _ _ _ _=>%[eL,%[cq,%[cq,%[0|0],%[0|2],(λ _ _=>rfl)|12],%[3|0],(λ _ _=>rfl)|12],%[cq,%[cq,%[0|0],%[0|2],(λ _ _=>rfl)|12],%[3|0],(λ _ _=>rfl)|12]|13]),∅,(by intros;rfl),%[0|7]|40],%[%[%[(dk hr.units),%[vG,%[min,(gN rfl),%[%[3|0]|1]|6],%[0|2],(ar _)|31],%[ny,%[max,(gO rfl),%[%[3|0]|1]|6],%[0|2],(ar _)|31],(ar _)|15],%[%[(@dw _ _ _ _)|11]|10],(@au _)|17]|10]|9],(by intros;rfl)|21],%[%[(@dw _ _ _ _)|11]|10]|9]|9],?_⟩;rw [show az ["_law_some", "_law_axes", "_law_axis", "_law_along"] [.ref l,.int (m:Int)]=[%[l|45],some (.int (m:Int)),none,none] from rfl];have a8:=aS.1;exists aS;have a9:=aS;exists kk;exists a7;exists a8;ac_rfl;intro m1 H1 b3 e1 h1;have b4:=e1.at hl;have a3:=λ (_:Unit)=>(aS ()).imp λ _ _ t=>PrV.ext t e1;clear b3 aS
  by_cases hY:Y=[]
  ·subst hY;have b5:ys=[]:=Sf (a8 ());subst b5;have k':=kk () H1 e1;clear kk a3;ac_rfl;exact k'
  ·have d0:=ja (H:=H1) (f:=dh H1 (dh H1 noD)) (a3 ())
   have a4:Y.isEmpty=false:=by cases Y with
    | nil=>exact absurd rfl hY
    | cons _ _=>rfl
   have bb:=Jz Y;rw [a4] at bb;have hyp:0 < Y.length:=List.length_pos_iff.mpr hY;have bt:hbB Y m=(List.range m).all (eu Y):=by unfold hbB;rw [a4];rfl
   rw [bt] at kk;have cb:=e1;clear hY a4 bt a3;ac_rfl;refine⟨by omega,by omega,?_⟩;clear d0 bb b4 h1;refine gZ (λ i σ H'=>∃ v3 v4:Option V,σ=[%[l|45],some (.int (m:Int)),v3,v4]/\Ext H H'/\∀ a < i,eu Y a=true) ⟨none,none,rfl,cb,λ a h=>absurd h (TR _)⟩ ?_ ?_
   ·rintro i _ H4 hi ⟨v3,v4,rfl,e4,hok⟩;have cf:i < m:=by have:i < ((m:Int)).toNat:=hi;omega
    have bx:=e4.at hl;have bS:=(a9 ()).imp λ _ _ t=>PrV.ext t e4;have wk:=dv (K:=K) (R:=λ z x H'=>PrV H' z x) (λ _ _ _ _ h e=>PrV.ext h e) bx bS;exists hok;clear hi;simp! only [↓aD];refine aV Y (λ _=>true) (λ z=>.int (bq z.1 z.2 i)) (λ z x H'=>PrV H' z x) wk.1 wk.2 (ak %[0|8]) ?_ ?_
    ·intro D z y H' N1 N0 hz hD e hy k1 _;obtain⟨q,u,v,rfl,hq,hu,hv⟩:=hy;have cm:N1 (.int (bq z.1 z.2 i)) H':=k1 rfl H' (Ext.refl _);have cT:=a7 () z hz;have a1:=dC (vals:=z.1) (c:=0+(i:Int)) %[0|8] %[0|8];have a2:=dC (vals:=z.2) (c:=0+(i:Int)) %[0|8] %[0|8];have ei:(0+(i:Int)).toNat=i:=by omega
     rw [ei] at a1 a2;unfold bq at cm;clear k1 wk hz kk;simp! only [↓aL,↓aJ]
    intro D H5 hD e5 h5;rw [ix] at h5;have cF:H5 D=some (.lst ((Y.map λ z=>bq z.1 z.2 i).map V.int)):=by rw [h5,Se];rfl
    have a5:0 < (Y.map λ z=>bq z.1 z.2 i).length:=by rw [Rh];exact hyp
    have a6:=λ (_:Unit) (M N:Int) (h1:nA (Y.map λ z=>bq z.1 z.2 i) M) (h2:rZ (Y.map λ z=>bq z.1 z.2 i) N)=>JG (a:=i) h1 h2;generalize (Y.map λ z=>bq z.1 z.2 i)=gs at cF a5 a6;have aX:=e4.trans e5;clear wk h5 hD bS bx;ac_rfl;rw [kh];refine⟨a5,λ M hM hle=>?_⟩;ac_rfl;rw [nB];refine⟨a5,λ N hN b1=>?_⟩;have hv:=a6 () M N ⟨hM,hle⟩ ⟨hN,b1⟩;clear hM hle hN b1 a6
    have fin:eu Y i=true->∀ a < i+1,eu Y a=true:=λ h a ha=>by
     by_cases e:a=i
     ·rw [e];exact h
     ·exact hok () a %[0|8]
    have bad:eu Y i=false->(List.range m).all (eu Y)=false:=λ h=>List.all_eq_false.mpr ⟨i,RO.mpr cf,by rw [h];decide⟩
    by_cases hm:M < 0
    ·by_cases hn:0 < N
     ·rw [Rp hm,Rp hn] at hv;have f2:=λ (_:Unit)=>fin hv;clear fin bad hv kk;ac_rfl;exact⟨_,_,rfl,aX,f2 ()⟩
     ·rw [Rp hm,Ry hn] at hv;rw [bad hv] at kk;have k':=kk () H5 aX;clear fin bad hv kk;ac_rfl
    ·by_cases hn:0 < N
     ·rw [Ry hm,Rp hn] at hv;rw [bad hv] at kk;have k':=kk () H5 aX;clear fin bad hv kk;ac_rfl
     ·rw [Ry hm,Ry hn] at hv;have f2:=λ (_:Unit)=>fin hv;clear fin bad hv kk;ac_rfl;exact⟨_,_,rfl,aX,f2 ()⟩
   ·rintro _ H4 ⟨v3,v4,rfl,e4,hok⟩;rw [Rt] at hok;have b2:(List.range m).all (eu Y)=true:=Sr.mpr λ a ha=>hok a (RO.mp ha);rw [b2] at kk;have k':=kk () H4 e4;clear kk hok b2;ac_rfl
abbrev vm  (l:Addr) (d:Addr) (n:Int) (H:Hp) (Q:VK) (E:XK):Prop:=∃ (Y Z:List PP) (ys zs:List V) (m:Nat),n=(m:Int)/\m<=8/\H l=some (.lst ys)/\Al (PrV H) Y ys/\H d=some (.lst zs)/\Al (PrV H) Z zs/\Z.length<=4096/\¬ Y=[]/\Y.length<=2 * m/\rR m Y/\(∀ y∈Y,y∈Z)/\hbB Y m=true/\∀ H',Ext H H'->Q (.bl true) H'
def xK  : Sp:=λ vs H Q E=>∃ (l:Addr) (d:Addr) (n:Int),vs=[.ref l,.ref d,.int n]/\(vm  l d n H Q E)
def EO  (l:Addr) (d:Addr) (n:Int) (H:Hp) (Q:VK) (E:XK):xK  [.ref l,.ref d,.int n] H Q E=(vm  l d n H Q E):=xf (f:=λ (l:Addr) (d:Addr) (n:Int)=>[.ref l,.ref d,.int n]) (λ _ _ _ _ _ _ h=>by cases h;exact⟨rfl,rfl,rfl⟩) l d n
def mj(T:Tx K mg t):%[2,A7|49] ["_law_told", "_law_due", "_law_axes"] xK:=by
 have G_wH:=%[fR|44];refine T.F_A7.ok iS (λ _ _ _ _ h=>xg h λ _ _ _=>rfl) %[0|50]
 ·obtain⟨l,d,_,rfl,Y,Z,ys,zs,m,rfl,m8,hl,aS,hd,a5,bS,a6,b1,a7,a3,a8,kk⟩:=h;refine⟨_,%[%[(PW.pt %[%[%[%[isinstance,bz,%[%[0|0],%[(@cY _ _ (.ty "list") (.type "list") _ ∅ T.z_list nofun rfl ⋯ ⋯)|1]|1]|6],(by intros;rfl)|28]|26],%[%[(@zP _ _ _ _ _ _ _ _ _ _ _ _ pJ pJ %[0|2] %[len,ao,%[%[0|0]|1]|6] %[eM,%[0|2],%[2|0]|13] ∅)|26]|34]|33]),%[%[(@dw _ _ _ _)|11]|10],(@au _)|17],%[%[RA,rfl,%[%[0|0]|19],%[3,iS|5],%[%[(PW.pt %[%[%[%[isinstance,bz,%[%[3|0],%[(@cY _ _ (.ty "tuple") (.type "tuple") _ ∅ T.z_tuple nofun rfl ⋯ ⋯)|1]|1]|6],(by intros;rfl)|28]|26],%[%[(qo hr.units),%[3|0],%[1|0],(by with_unfolding_all rfl)|15]|34]|33]),%[%[(@dw _ _ _ _)|11]|10],(@au _)|17]|10],(by intros;rfl)|21],%[%[%[wH,%[%[0|0],%[%[2|0]|1]|1]|3]|11]|10]|9]|9],?_⟩;rw [show az ["_law_told", "_law_due", "_law_axes", "_law_pair"] [.ref l,.ref d,.int (m:Int)]=[%[l|45],%[d|45],some (.int (m:Int)),none] from rfl];clear G_wH;have aX:=aS.1
  have a9:1<=(ys.length:Int):=by
   have:Y.length ≠ 0:=λ e=>a6 (Sf e);omega
  have hle:(ys.length:Int)<=2 * (m:Int):=by omega
  exists aS;exists a5;exists a3;exists a8;exists kk;exists a7;have q1:1<=(Y.length:Int):=by omega
  have q2:(Y.length:Int)<=2 * (m:Int):=by omega
  have b2:Y.length<=4096:=by omega
  exists aX;clear a9 hle;have q3:1<=(ys.length:Int):=by rw [aX ()];exact q1
  have q4:(ys.length:Int)<=2 * (m:Int):=by rw [aX ()];exact q2
  ac_rfl;refine cw (xs:=ys) (λ i σ H'=>∃ v3:Option V,σ=[%[l|45],%[d|45],some (.int (m:Int)),v3]/\Ext H H') ⟨none,rfl,Ext.refl _⟩ (λ i σ H' _ ⟨_,_,e⟩=>e.at hl) ?_ ?_
  ·rintro i y _ H2 hi ⟨v3,rfl,e2⟩;have bb:i < Y.length:=by have:=(Rf.mp hi).1;rw [aX ()] at this;exact this
   obtain⟨z,hz⟩:∃ z,Y[i]? = some z:=⟨_,Rb bb⟩;have pz:=((aS ()).2 i z y hz hi).ext e2;have bt:=a3 () z (Rx hz);have a4:=(a5 ()).imp λ _ _ t=>PrV.ext t e2;have hd2:=e2.at hd;have dp:gU H2 6 y=some (prD z):=Fx (f:=dh H2 (dh H2 (dh H2 noD))) pz;have d0:ba (zs.map (gU H2 5))=some (Z.map prD):=ja (f:=dh H2 (dh H2 noD)) a4
   have dl:gU H2 6 (.ref d)=some (.list (Z.map prD)):=by
    rw [jo,hd2]
    show xi (gU H2 5) (.lst zs)=_
    rw [gK,d0];rfl
   obtain⟨q,_,_,rfl,hq,_⟩:=pz;exists dp;exists dl;clear d0 hi hz kk a4;simp! only [↓aD];refine⟨_,_,dp (),dl (),?_⟩;rw [RP rfl,yx,Rp bt];ac_rfl;exact⟨_,rfl,e2⟩
  ·rintro _ H2 ⟨v3,rfl,e2⟩;have bx:=(aS ()).imp λ _ _ t=>PrV.ext t e2;ac_rfl;rw [u5];refine⟨Y,ys,m,rfl,m8,e2.at hl,bx,by omega,a7 (),λ H3 e3=>?_⟩;have k':=kk () H3 (e2.trans e3);rw [a8 ()];clear kk;ac_rfl
abbrev vk(C:Addr)(u:Addr)(v:Addr)(q:Addr)(H:Hp)(Q:VK)(E:XK):Prop:=∃ (room f1 f2:Int) (A B:%[0|48]) (ms:List Int) (os:%[0|48]),aE C H u room f1 (A.map aN)/\aE C H v room f2 (B.map aN)/\(A.map λ a=>a.1)=ms/\(B.map λ a=>a.1)=ms/\SzK ms/\1<=room/\room<=4096/\(0<=f1+bw A/\f1+aY A < room)/\(0<=f2+bw B/\f2+aY B < room)/\(af f1 A).Nodup/\aR H q (os.map λ o=>[o.1,o.2])/\i6 os ms.length/\j6 ms (af f1 A) (af f2 B) os=true/\∀ H',Ext H H'->Q (.bl true) H'
def xJ(C:Addr):Sp:=λ vs H Q E=>∃ (u:Addr) (v:Addr) (q:Addr),vs=[.ref u,.ref v,.ref q]/\(vk C u v q H Q E)
def EN(C:Addr)(u:Addr)(v:Addr)(q:Addr)(H:Hp)(Q:VK)(E:XK):xJ C [.ref u,.ref v,.ref q] H Q E=(vk C u v q H Q E):=xf (f:=λ (u:Addr) (v:Addr) (q:Addr)=>[.ref u,.ref v,.ref q]) (λ _ _ _ _ _ _ h=>by cases h;exact⟨rfl,rfl,rfl⟩) u v q
def rp(T:Tx K mg t):%[10,DV|49] ["_law_one", "_law_other", "_law_order"] (xJ t.a_V3):=by
 have G_wB:=%[ju|44];have G_VV:=%[Ab|44];have G_AZ:=%[lR|44];have G_tX:=%[dP|44];refine T.F_DV.ok fB (λ _ _ _ _ h=>xg h λ _ _ _=>rfl) %[0|50]
 ·obtain⟨u,v,q,rfl,room,f1,f2,A,B,ms,os,vu,vv,m1,m2,hsz,r1,r2,eb,ec,eg,tq,hok,ei,kk⟩:=h;obtain⟨dx,D,hu,tD⟩:=vu.ob;obtain⟨uq,gp,ej⟩:=tq;have c1:=T.cl_View;have c2:=T.na_View_room;have g1:=eU room f1 D;have cS:=T.cl_Store;refine⟨_,%[%[(["_law_k", "_law_one", "_law_other", "_law_order", "_law_held", "_law_store", "_law_beside"]),(1),(3),_,fB.nd,rfl,(Or.inl rfl),(aC (aa fm) ["_law_one", "_law_other", "_law_order", "_law_held", "_law_store", "_law_beside"] rfl rfl nofun),rfl,%[∅,T.z_range,%[%[%[0|0],rfl|27]|1],∅|32],(λ _ _ _ _ _=>%[0,["_law_k", "_law_one", "_law_other", "_law_order", "_law_held", "_law_store", "_law_beside"]|51]),(λ _ _ _ _ _=>(@aG _)),(λ _ _ _ _ _=>%[cv,%[eM,%[0|2],%[0|0]|13],%[0|2]|13]),∅,(by intros;rfl),%[0|7]|40],%[%[4,fB,%[T.mk_Store,G_wB,(hr.mono ⋯),∅,T.m_V1,T.b_wB,.nil,aW,%[%[3|0]|1],⋯,∅,∅|43]|4],%[%[%[VV,%[%[4|0],%[%[0|0],%[%[1|0],%[%[du,∅,T.z_list,nofun,%[%[2|0]|1],⋯,⋯,∅,∅|38]|1]|1]|1]|1]|3],∅|20],%[%[5,fB,%[T.mk_Store,G_wB,(hr.mono ⋯),∅,T.m_V1,T.b_wB,.nil,aW,%[%[3|0]|1],⋯,∅,∅|43]|4],%[%[%[%[5|0],T.cl_Store,T.mt_Store_copied,G_AZ,(hr.mono ⋯),T.b_AZ,.nil,aW,%[%[0|0],%[%[1|0]|1]|1],∅,∅,∅|35],∅|20],%[%[%[(cV hr.units),%[%[4|0],T.cl_Store,T.mt_Store_all_values,G_tX,(hr.mono ⋯),T.b_tX,.nil,aW,∅|23],%[%[5|0],T.cl_Store,T.mt_Store_all_values,G_tX,(hr.mono ⋯),T.b_tX,.nil,aW,∅|23],(ar _)|31]|11]|10]|9]|9]|9]|9]|9],?_⟩;rw [show az ["_law_one", "_law_other", "_law_order", "_law_held", "_law_store", "_law_beside"] [.ref u,.ref v,.ref q]=[%[u|45],%[v|45],%[q|45],none,none,none] from rfl];clear G_wB G_VV G_AZ G_tX;have h6:=hsz.pos.1;have h8:=hsz.pos.2.1;have hh:=hsz.pos.2.2;have hs:∀ n∈ms,1<=n/\n<=1000000000:=λ n hn=>by have:=h6 n hn;omega
  have c8:fM A:=⟨by rw [←Rh (f:=λ a:Int × Int=>a.1),m1];exact h8,λ a ha=>hs a.1 (by rw [←m1];exact Rj.mpr ⟨a,ha,rfl⟩)⟩;have de:fM B:=⟨by rw [←Rh (f:=λ a:Int × Int=>a.1),m2];exact h8,λ a ha=>hs a.1 (by rw [←m2];exact Rj.mpr ⟨a,ha,rfl⟩)⟩;have gs:=dE c8;have gW:=dE de;have b5:=eW f1 A λ a ha=>(c8.2 a ha).1;have cb:=eW f2 B λ a ha=>(de.2 a ha).1;have cf:(A.map aN).map (λ a=>a.1)=ms:=by rw [cj];exact m1
  have dy:(B.map aN).map (λ a=>a.1)=ms:=by rw [cj];exact m2
  obtain⟨n,hn⟩:=RF (show 0<=room by omega);subst hn;have el:∀ z∈aF ms os,InR ms z:=nR hs λ o ho=>hok.toP.1 o ho
  have cm:fe (af f1 A) n:=λ c hc=>by
   obtain⟨xs,hx,e⟩:=(mV f1 A c).mp hc;have:=fw A xs hx;omega
  have cF:fe (af f2 B) n:=λ c hc=>by
   obtain⟨xs,hx,e⟩:=(mV f2 B c).mp hc;have:=fw B xs hx;omega
  have en:=uG hok.2.1;have lc:=λ (vals:List Int) (hv:vals.length=n)=>AR (vals:=vals) hs m1 m2 eg hok el (by rw [hv];exact cm) (by rw [hv];exact cF) ei;exists lc;exists kk;exists b5;exists cb;exists cf;exists dy;exists hok;exists en;exists h6;exists m1;exists m2;exists cm;exists cF;have c7:=λ (_:Unit)=>ej;clear eg ei hs c8 de el ej tD;ac_rfl;refine⟨by omega,by omega,?_⟩;rw [Rt];refine aV (List.range n) (λ _=>true) (λ j=>.int (7 * (j:Int)+3)) (λ j x H'=>x=.int (0+(j:Nat))) di.1 di.2 (ak (by rw [RL];omega)) ?_ ?_
  ·intro D' j y H' N1 N0 hj hk e hy k1 _;subst hy;have hl:=RO.mp hj;have hp:N1 (.int (7 * (j:Int)+3)) H':=k1 rfl H' (Ext.refl _);have hq:pI 7 (j:Int):=.inl ⟨by decide,by decide⟩;clear k1 kk hj;rw [RZ];simp! only [↓aL,↓aJ]
  intro D1 H1 g0 e1 h1;rw [ix] at h1;obtain⟨vals,hvals⟩:∃ vals:List Int,vals=(List.range n).map λ (j:Nat)=>7 * (j:Int)+3:=⟨_,rfl⟩;have cT:H1 D1=%[vals|46]:=by rw [h1,hvals,Se];rfl
  have c0:vals.length=n:=by rw [hvals,Rh,RL]
  have ep:=λ (_:Unit)=>lc () vals c0;have dz:(vals.length:Int)=(n:Int):=by omega
  have d0:1<=vals.length:=by omega
  have bb:vals.length<=4096:=by omega
  exists c0;exists dz;clear h1 hvals lc g0;ac_rfl;intro s1 et H5 a4 ew ey e5 h5 g5;rw [qF];refine⟨et,vals,h5,e5.at cT,d0,bb,λ H6 l1 e6 ez eH e0=>?_⟩;have c3:=e6 H1 e5 a4;have e2:da t.a_V1 H6 s1 l1 vals:=⟨⟨et,eH⟩,e0⟩;have a5:H1 l1=none:=e5.free ez;have e3:=c3.at cT;have e4:=(e1.trans c3).at gp;clear h5 g5 a4 ew ey e5 e6 ez eH e0;ac_rfl;intro q9 H9 g6 e9 h9;have d2:=c3.trans e9;have c4:=e1.trans d2;have bt:=e2.ext e9;have t9:aR H9 q9 (os.map λ o=>[o.1,o.2]):=⟨uq,h9,(c7 ()).imp λ _ _ t=>bE.ext t c4⟩;have fa:=iJ (hok ()) t9;have d3:=vu.ext c4;have d4:=vv.ext c4;rw [←dz ()] at d3 d4 eb ec;clear g6 h9 e4 e2 t9;ac_rfl;rw [wX];refine⟨l1,vals,ms,os,f1,f2,A,B,bt,d3,d4,fa,kL (hok ()),h6 (),h8,by rw [en ()];omega,m1 (),m2 (),d0,bb,eb,ec,λ g7 x1 x2 x3=>?_⟩;rw [ep ()] at x3;have d5:H l1=none:=e1.free a5;have bx:=x1 H1 d2 a5;have bS:=bx.at cT;have b1:=e1.trans bx;obtain⟨⟨d1,a4⟩,fb⟩:=bt;have aS:=x2 s1 _ (λ e=>by rw [e,fb] at a4;cases a4) a4;clear a4 fb d3 d4 fa e9 c4 d2 c3 x1 x2 cT ep c7 a5 d5 e3;ac_rfl;intro s2 d6 H7 fo fu fv e7 h7 g8;rw [qF];refine⟨d6,vals,h7,e7.at bS,d0,bb,λ H8 l2 e8 c5 d7 fx=>?_⟩;have a6:=e8 g7 e7 fo;have aX:da t.a_V1 H8 s2 l2 vals:=⟨⟨d6,d7⟩,fx⟩;have hb:l2 ≠ l1:=λ e=>by rw [e,e7.at x3] at c5;cases c5
  have d8:H l2=none:=(b1.trans e7).free c5;have c6:=b1.trans a6;have b2:=vu.ext c6;have b3:=vv.ext c6;rw [←dz ()] at b2 b3;have a3:=d7;replace aS:=a6.at aS;replace x3:=a6.at x3;have g2:=bI l2 (m := "copied") nofun;have g3:=bI l1 (m := "all_values") nofun;have g4:=bI l2 (m := "all_values") nofun;have d9:(uh vals (af f1 A) (iy vals (af f2 B))).length<=4096:=by rw [lB];exact bb
  clear h7 g8 fo fu fv e7 e8 c5 d7 fx bS bx b1 a6;ac_rfl;rw [wZ];refine⟨l2,vals,f1,f2,_,_,aX,b2,b3,gs,gW,bb,by rw [cf ()];omega,by rw [cf (),dy ()],by rw [b5 (),c0 ()];exact cm (),by rw [cb (),c0 ()];exact cF (),λ ht y1 y2 y3=>?_⟩;rw [b5 (),cb ()] at y3;generalize uh vals (af f1 A) (iy vals (af f2 B))=ws at x3 y3 d9;have fy:=y1 H c6 d8;have a7:=y2 s1 _ (λ e=>by rw [e,aX.fl] at aS;cases aS) aS;have a8:=y2 s2 _ (λ e=>by rw [e,aX.fl] at a3;cases a3) a3;have f3:=y2 l1 _ (Ru hb) x3;clear aS a3 aX b2 b3 x3 y1 y2 c6 b5 cb cf dy cm cF;ac_rfl;rw [oJ];refine⟨l1,ws,⟨⟨d1,a7⟩,f3⟩,d9,λ hA hB f5 ea f6=>?_⟩;have a9:=ea.at a8;have b4:=ea.at y3;clear f5 a8 a7 y3 f3;ac_rfl;rw [oJ];refine⟨l2,ws,⟨⟨d6,a9⟩,b4⟩,d9,λ hC hg f7 f9 hD=>?_⟩;have gm:=f9.at f6;have k':=kk () hg (fy.trans (ea.trans f9));clear f7 a9 b4 kk f6;ac_rfl
def PY(ms:List Int)(a:Int × Int):List Int × List Int:=(aj ms a.1,aj ms a.2)
def CC(ms:List Int)(L:List (Nat × Nat)):(ijL L).map (PY ms)=L.map (rO ms):=by
 unfold ijL;rw [map_map];rfl
def sU{R:PP->V->Prop}{Z:List PP}{zs:List V}(h:Al R Z zs):∀ is:List Nat,Al R (is.filterMap (Z[·]?)) (is.filterMap (zs[·]?))
 | []=>⟨rfl,λ i z y hz=>by simp at hz⟩
 | i::is=>by
  rw [Tn,Tn]
  by_cases hi:i < Z.length
  ·have aS:i < zs.length:=by rw [h.1];exact hi
   have r:=h.2 i Z[i] zs[i] (Rb hi) (Rb aS);rw [Rb hi,Rb aS]
   exact pT (zs:=[Z[i]]) (ys:=[zs[i]]) ⟨rfl,λ j z y hz hy=>by
    cases j with
    | zero=>simp at hz hy;subst hz;subst hy;exact r
    | succ j=>simp at hz⟩ (sU h is)
  ·rw [SK %[0|8],SK (by rw [h.1];omega)];exact sU h is
def JJ{R:PP->V->Prop}{k:Int}{Z:List PP}{zs:List V}(h:Al R Z zs):Al R (fW k Z) (fW k zs):=by
 unfold fW;rw [h.1];exact sU h _
def LoP(H:Hp)(k:Nat)(y:V):Prop:=∃ (g:Addr) (j:Int),y=.ref g/\H g=some (.tup [.int (k:Int),.int j])/\(j=1\/j=-1)
def Lg{H:Hp}{n:Nat}{ys:List V}(al:Al (LoP H) (List.range n) ys):∃ os:%[0|48],i6 os n/\Al (bE H) (os.map λ o=>[o.1,o.2]) ys:=by
 have hf:∀ k:Nat,∃ j:Int,(j=1\/j=-1)/\∀ y,k < n->ys[k]? = some y->∃ g,y=.ref g/\H g=some (.tup [.int (k:Int),.int j]):=λ k=>by
  cases hy:ys[k]? with
  | none=>exact⟨1,.inl rfl,λ y _ h=>by cases h⟩
  | some y=>
   by_cases hk:k < n
   ·obtain⟨g,j,h1,h2,h3⟩:=al.2 k k y (Us hk) hy;exact⟨j,h3,λ y' _ h=>by cases h;exact⟨g,h1,h2⟩⟩
   ·exact⟨1,.inl rfl,λ y' h=>absurd h hk⟩
 obtain⟨f,hf⟩:=Classical.axiomOfChoice hf;refine⟨(List.range n).map λ (k:Nat)=>((k:Int),f k),⟨by rw [Rh,RL],by rw [Se];exact List.Perm.refl _,λ o ho=>?_⟩,?_,λ i z y hz hy=>?_⟩
 ·obtain⟨k,_,rfl⟩:=Rj.mp ho;exact(hf k).1
 ·rw [Rh,Rh];exact al.1
 ·rw [Se,Rq] at hz;obtain⟨k,hk,rfl⟩:=Rm.mp hz;have aS:i < n:=by have:=(Rf.mp hk).1;rw [RL] at this;exact this
  rw [Us aS] at hk;cases hk;obtain⟨g,h1,h2⟩:=(hf i).2 y aS hy;exact⟨g,h1,h2⟩
def Lq{Z:List PP}{z:PP}{n:Nat}(hl:rR n [z])(hd:¬ z.1=z.2):BR Z [z] n=false:=by
 cases hb:BR Z [z] n with
 | false=>rfl
 | true=>
  unfold BR FC at hb;rw [Bool.and_eq_true,Bool.and_eq_true,all_eq_true (l:=List.range n)] at hb
  have h0:∀ a < n,bq z.1 z.2 a=0:=λ a ha=>by
   have h:=hb.2.2 a (List.mem_range.mpr ha);unfold eu at h;simp only [all_cons,List.all_nil,any_cons,List.any_nil,Bool.and_true,Bool.or_false,Bool.or_eq_true,Bool.and_eq_true,decide_eq_true_eq] at h;omega
  have aS:jH [z] [] n:=⟨(λ y hy=>by cases hy),λ a ha=>⟨λ ⟨y,hy,hg⟩=>by rw [Rg.mp hy,h0 a ha] at hg;omega,λ ⟨y,hy,hg⟩=>by rw [Rg.mp hy,h0 a ha] at hg;omega⟩⟩;exact absurd rfl (aS.some hl (by simp) λ y hy=>by rw [Rg.mp hy];exact hd)
def GU{Z:List PP}{n:Nat}(hl:rR n Z)(hd:∀ z∈Z,¬ z.1=z.2):BR Z (Z.take 1) n=false:=by
 cases hz:Z with
 | nil=>rfl
 | cons z Z'=>
  have hm:z∈Z:=by rw [hz];exact Rr
  exact Lq (λ y hy=>by rw [Rg.mp hy];exact hl z hm) (hd z hm)
abbrev JP(K:PySem.W.Frag)(a:Addr)(H:Hp)(Q:VK)(E:XK):Prop:=∃ ns:List Int,SqL K H a (ns.map V.int)/\ns.length<=63/\∀ H',Q (.bl true) H'
def xm(K:W.Frag):Sp:=λ vs H Q E=>∃ (a:Addr),vs=[.ref a]/\(JP K a H Q E)
def Ls(T:Tx K mg t):%[11,law|49] ["_law_script"] (xm K):=by
 refine T.F_law.ok jG (λ _ _ _ _ h=>lX h λ _=>rfl) %[0|50]
 ·obtain⟨a,rfl,ns,hS,hl,kk⟩:=h;have G_tZ:=%[iT|44] a ns;have G_DL:=%[oR|44] a ns;have G_A5:=%[mh|44];have G_DJ:=%[oS|44];have G_A3:=%[cR|44];have G_Bd:=%[oQ|44];have G_A7:=%[mj|44];have G_V2:=%[HA|44];have G_DK:=%[oU|44];have G_VZ:=%[Dg|44];have G_DV:=%[rp|44];have G_wH:=%[fR|44];have G_DS:=%[gu|44] a ns;have c1:=T.cl_View;have c2:=T.na_View_room;refine⟨_,%[%[1,jG,%[tZ,%[%[0|0]|1]|3]|4],%[(@pN _ _ _ _ _ _ %[DL,%[%[0|0],%[%[1|0]|1]|1]|3] (%[(4),rfl,%[%[2,jG|5],%[%[3,jG|5],%[%[4,jG|5],%[%[5,jG|5],(@aK _),∅|16],∅|16],∅|16],∅|16],∅,∅|25].mono λ _ _ _ _ h=>bX h) ∅ ∅ ∅),%[(@fY _ _ (6) _ _ _ _ jG.nd rfl (Or.inr rfl) %[A5,%[%[1|0]|1]|3] ∅ %[0|7]),%[%[(["_law_i", "_law_j", "_law_script", "_law_sizes", "_law_one", "_law_other", "_law_writes", "_law_reads", "_law_some", "_law_due", "_law_told", "_law_order", "_law_found"]),(2),(7),_,jG.nd,rfl,(Or.inl rfl),(aC (aa jZ) ["_law_script", "_law_sizes", "_law_one", "_law_other", "_law_writes", "_law_reads", "_law_some", "_law_due", "_law_told", "_law_order", "_law_found"] rfl rfl nofun),rfl,%[%[DJ,%[%[4|0],%[%[5|0]|1]|1]|3]|19],(λ _ _ _ _ _=>(%[(2),rfl,%[%[0,["_law_i", "_law_j", "_law_script", "_law_sizes", "_law_one", "_law_other", "_law_writes", "_law_reads", "_law_some", "_law_due", "_law_told", "_law_order", "_law_found"]|51],%[%[1,["_law_i", "_law_j", "_law_script", "_law_sizes", "_law_one", "_law_other", "_law_writes", "_law_reads", "_law_some", "_law_due", "_law_told", "_law_order", "_law_found"]|51],(@aK _),∅|16],∅|16],∅,∅|25].mono λ _ _ _ _ h=>bX h)),(λ _ _ _ _ _=>(@aG _)),(λ _ _ _ _ _=>%[%[%[cq,%[8|0],%[0|0],(λ _ _=>rfl)|12],%[%[cq,%[8|0],%[1|0],(λ _ _=>rfl)|12]|1]|1]|29]),∅,(by intros;rfl),%[0|7]|40],%[%[%[(dk hr.units),%[A3,%[%[2|0],%[%[3|0]|1]|1]|3],%[7|0],(ar _)|15],%[%[(@dw _ _ _ _)|11]|10],(@au _)|17],%[%[8,jG,%[Bd,%[%[2|0],%[%[3|0]|1]|1]|3]|4],%[%[%[(cV hr.units),%[cq,%[8|0],%[0|2],(λ _ _=>rfl)|12],(@uu _ _ _ _),(ar _)|15],%[%[(PW.pt %[%[%[%[A7,%[%[cq,%[8|0],%[0|2],(λ _ _=>rfl)|12],%[%[7|0],%[%[len,ao,%[%[1|0]|1]|6]|1]|1]|1]|3],(by intros;rfl)|28]|26],%[%[kR,%[V2,%[%[2|0],%[%[3|0],%[%[cq,%[8|0],%[0|2],(λ _ _=>rfl)|12]|1]|1]|1]|3],(@dw _ _ _ _),(ar _)|15]|34]|33]),%[%[(@dw _ _ _ _)|11]|10],(@au _)|17]|10],%[%[(PW.pt %[%[(dk hr.units),%[cq,%[8|0],%[0|2],(λ _ _=>rfl)|12],(@uu _ _ _ _),(ar _)|15],%[%[%[%[DK,%[%[1|0],%[%[cq,%[8|0],%[0|2],(λ _ _=>rfl)|12],%[%[4|0],%[%[5|0]|1]|1]|1]|1]|3],(by intros;rfl)|28]|26]|34]|33]),%[%[(@dw _ _ _ _)|11]|10],%[%[(PW.pt %[%[kR,%[VZ,%[%[2|0],%[%[3|0],%[%[du,∅,T.z_list,nofun,%[%[cq,%[8|0],%[0|2],(λ _ _=>rfl)|12]|1],⋯,⋯,∅,∅|38]|1]|1]|1]|3],(@dw _ _ _ _),(ar _)|15],%[(PW.pt %[%[pJ,%[%[2|0],rfl|27],%[0|2],(ar _)|15],(@i9 _ _ _ _ %[%[%[DV,%[%[2|0],%[%[3|0],%[%[cq,%[8|0],%[0|2],(λ _ _=>rfl)|12]|1]|1]|1]|3],(by intros;rfl)|28]|26])|42])|34]|33]),%[%[(@dw _ _ _ _)|11]|10],(@au _)|17]|10]|17]|10]|17],%[(@fY _ _ (6) _ _ _ _ jG.nd rfl (Or.inr rfl) (@Hl _ _ _ _ _ _ _ %[7|0] %[cv,%[0|2],%[sL,%[len,ao,%[%[7|0]|1]|6],%[0|2]|13]|13]) ∅ %[0|7]),%[%[%[(dk hr.units),%[V2,%[%[2|0],%[%[3|0],%[%[du,∅,T.z_list,nofun,%[%[6|0]|1],⋯,⋯,∅,∅|38]|1]|1]|1]|3],%[wH,%[%[6|0],%[%[len,ao,%[%[1|0]|1]|6]|1]|1]|3],(ar _)|15],%[%[(@dw _ _ _ _)|11]|10],(@au _)|17],%[%[(["_law_k", "_law_script", "_law_sizes", "_law_one", "_law_other", "_law_writes", "_law_reads", "_law_some", "_law_due", "_law_told", "_law_order", "_law_found"]),(1),(9),_,jG.nd,rfl,(Or.inl rfl),(aC (aa jZ) ["_law_script", "_law_sizes", "_law_one", "_law_other", "_law_writes", "_law_reads", "_law_some", "_law_due", "_law_told", "_law_order", "_law_found"] rfl rfl nofun),rfl,%[∅,T.z_range,%[%[len,ao,%[%[1|0]|1]|6]|1],∅|32],(λ _ _ _ _ _=>%[0,["_law_k", "_law_script", "_law_sizes", "_law_one", "_law_other", "_law_writes", "_law_reads", "_law_some", "_law_due", "_law_told", "_law_order", "_law_found"]|51]),(λ _ _ _ _ _=>(@aG _)),(λ _ _ _ _ _=>%[%[%[0|0],%[%[cq,%[%[%[0|2],%[(@xo _ _ _ _ _ _ ki %[0|2])|1]|1]|18],%[DS,%[%[1|0],%[%[cv,%[0|2],%[0|0]|13],%[%[0|2]|1]|1]|1]|3],(λ _ _=>rfl)|12]|1]|1]|29]),∅,(by intros;rfl),%[0|7]|40],%[%[(PW.pt %[%[kR,%[V2,%[%[2|0],%[%[3|0],%[%[JU,%[7|0],(@gY _),(@gX _ _ _ %[0|2])|41]|1]|1]|1]|3],(@dw _ _ _ _),(ar _)|15],(@i9 _ _ _ _ %[ny,%[len,ao,%[%[7|0]|1]|6],%[0|2],(ar _)|15])|42]),%[%[(@dw _ _ _ _)|11]|10],(@au _)|17],%[%[10,jG,%[VZ,%[%[2|0],%[%[3|0],%[%[9|0]|1]|1]|1]|3]|4],%[%[%[%[isinstance,bz,%[%[10|0],%[(@cY _ _ (.ty "bool") (.type "bool") _ ∅ T.z_bool nofun rfl ⋯ ⋯)|1]|1]|6],%[%[(cV hr.units),%[10|0],%[DK,%[%[1|0],%[%[9|0],%[%[4|0],%[%[5|0]|1]|1]|1]|1]|3],(ar _)|31]|36]|30]|11]|10]|9]|9]|9]|9]|9]|9]|9]|9]|9]|9]|9]|9],?_⟩;rw [show az ["_law_script", "_law_sizes", "_law_one", "_law_other", "_law_writes", "_law_reads", "_law_some", "_law_due", "_law_told", "_law_order", "_law_found"] [.ref a]=[%[a|45],none,none,none,none,none,none,none,none,none,none] from rfl];clear G_tZ G_DL G_A5 G_DJ G_A3 G_Bd G_A7 G_V2 G_DK G_VZ G_DV G_wH G_DS;exists kk;ac_rfl;rw [M9];refine⟨rfl,hS,hl,λ ms pl H1 e1 h1 hsz iz h4=>?_⟩;have hE:=e1.2 K a _ hS;ac_rfl;rw [Bz];refine⟨rfl,hE,hl,ms,h1,hsz,iz,h4,λ room f1 f2 ps qs x1 x2 w1 w2 r2 H2 e2 h2 v1 v2 f6 f7 o1 o2 lz bS=>?_⟩;have i0:=e2.2 K a _ hE;have dy:=e2.at h1;have h8:=hsz.pos.2.1;have c6:=hsz.pos.2.2;have h6:=hsz.pos.1;have hs:∀ n∈ms,1<=n/\n<=1000000000:=λ n hn=>by have:=h6 n hn;omega
  have f9:=yk o1.len;have gm:=yk o2.len;have gp:=nP hsz o1.len;have gs:=nP hsz o2.len;have i1:(0<=f1+bw (ms.zip ps)/\f1+aY (ms.zip ps) < room):=⟨o1.lo,o1.hi⟩;have i2:(0<=f2+bw (ms.zip qs)/\f2+aY (ms.zip qs) < room):=⟨o2.lo,o2.hi⟩;generalize ms.zip ps=A at *;generalize ms.zip qs=B at *;have a4:=eW f1 A λ a ha=>(gp.2 a ha).1;have a8:=eW f2 B λ a ha=>(gs.2 a ha).1;have dz:=aB f1 A λ a ha=>(gp.2 a ha).1;have d0:=aB f2 B λ a ha=>(gs.2 a ha).1;rw [f9] at dz;rw [gm] at d0;have cF:=dE gp;have cS:=dE gs;have a5:(A.map aN).map (λ a=>a.1)=ms:=by rw [cj];exact f9
  have b3:(B.map aN).map (λ a=>a.1)=ms:=by rw [cj];exact gm
  obtain⟨ws,gW⟩:∃ ws,af f1 A=ws:=⟨_,rfl⟩;obtain⟨rs,hF⟩:∃ rs,af f2 B=rs:=⟨_,rfl⟩;rw [gW] at a4 dz f6 bS;rw [hF] at a8 d0 f7;have b4:(af f1 (A.map aN)).Nodup:=by rw [a4];exact bS
  have hI:=De hs dz d0 bS;have l1:=dt ws rs rs.length;have i3:((aP ws rs rs.length).map (rO ms)).length<=4096:=by rw [Rh];omega
  have hK:=λ (os:%[0|48])=>mQ (ms:=ms) (ws:=ws) (rs:=rs) (os:=os);exists hK;exists hI;exists bS;exists b4;exists hs;exists hsz;exists a4;exists a8;exists a5;exists b3;exists f9;exists gm;exists gW;exists hF;clear gp gs o1 o2 hE hS e1 h1 h6 e2 iz;ac_rfl;rw [JE];refine⟨ms,dy,⟨h8,hs ()⟩,by omega,λ re H3 e3 t3=>?_⟩;have d4:=e3.at f6;have d5:=e3.at f7;clear h2;ac_rfl;rw [wY];refine⟨ws,rs,d4,d5,bS (),by omega,by omega,λ r9 H9 l2 e9 t9=>?_⟩;obtain⟨ts,i4,i5⟩:=t9;obtain⟨ls,i7,hL⟩:=t3;have hlen:ls.length=ws.length:=by rw [hL.1];unfold bB;rw [length_map,length_range];omega
  have jz:=e3.trans e9;have hb:=e9.at i7;have c5:=hL.imp λ _ _ t=>bE.ext t e9;have wk:=dv (K:=K) (R:=axP) (λ _ _ _ _ h e=>h.ext e) i4 (ke i5);exists hlen;exists c5;clear d4 d5 i7 hL i5 l2 e3 e9;ac_rfl;refine dF (ijL (aP ws rs rs.length)) (λ _=>true) axP (λ D a y H'=>PrV H' (PY ms a) y) wk.1 wk.2 (λ D _ y H1 H2 h e=>h.ext e) (λ D _ y H1 xs o h hD=>h.upd hD) (ak (by unfold ijL;rw [length_map];omega)) ?_ ?_
  ·intro D' x y H' N1 N0 ha hD e _ ⟨q,hy,hq⟩ k1 _;subst hy;have hM:=k1 rfl;obtain⟨z,hz,rfl⟩:=Rj.mp ha;obtain⟨b1,b2⟩:=zW z hz;obtain⟨q1,n7,l3⟩:=Fc (c5 ()) (i:=z.1) (by rw [hlen ()];exact b1);obtain⟨q2,n8,l5⟩:=Fc (c5 ()) (i:=z.2) (by rw [hlen ()];omega);have n2:=e.at hb;have l7:=e.at l3;have l8:=e.at l5;clear k1 wk kk ha hz;simp! only [↓dB,↓aJ];intro t1 H6 oj e6 h6;exact hM _ H6 e6 ⟨t1,q1,q2,rfl,h6,e6.at l7,e6.at l8⟩
  intro D zs H5 xD e5 hD hN;rw [ix] at hN;have c7:=Na hN;rw [CC] at c7;obtain⟨Z,hZ⟩:∃ Z,(aP ws rs rs.length).map (rO ms)=Z:=⟨_,rfl⟩;rw [hZ] at c7 i3;have aX:∀ z∈Z,¬ z.1=z.2/\InR ms z.1/\InR ms z.2:=λ z hz=>by rw [←hZ] at hz;exact hI () z hz
  have d6:rR ms.length Z:=λ z hz=>⟨(aX z hz).2.1.len,(aX z hz).2.2.len⟩;have cT:=jz.trans e5;have n3:=λ (_:Unit)=>c7.1;exists c7;exists aX;exists d6;exists hZ;have d7:=v1.ext cT;have d8:=v2.ext cT;have j0:=cT.2 K a _ i0;have hc:=cT.at dy;have d9:=cT.at f6;have ea:=cT.at f7;clear wk hN i4 xD hb c5 hlen jz e5 hI l1 v1 v2 i0 dy f6 f7 cT;ac_rfl;rw [iN];refine⟨room,f1,f2,_,_,d7,d8,cF,cS,by rw [a5 (),b3 ()],by rw [a5 ()];omega,b4 (),λ l6 r6 oo oD H6 e6 mc mu hO mv hg=>?_⟩;rw [a5 ()] at hO;have hP:=nJ hO hg;rw [a4 (),a8 (),hZ ()] at hP;have j1:=e6.at hD;have eb:=λ (_:Unit)=>(c7 ()).imp λ _ _ t=>PrV.ext t e6;have d1:=ja (H:=H6) (f:=dh H6 (dh H6 noD)) hP;have d2:=ja (H:=H6) (f:=dh H6 (dh H6 noD)) (eb ());have d3:=yv Z;have ec:=d7.ext e6;have eg:=d8.ext e6;have j2:=e6.2 K a _ j0;have hh:=e6.at hc;have ei:=e6.at d9;have ej:=e6.at ea;clear mc mu hO hg hP c7 d7 d8 j0 hc d9 ea e6 hD;ac_rfl;rw [BE];refine⟨room,f1,f2,_,_,ms,ec,eg,cF,cS,a5 (),b3 (),c6,b4 (),λ x7 H7 e7 _ aS=>?_⟩;rw [a4 (),a8 (),hZ ()] at aS;have hQ:=e7.at j1;have el:=λ (_:Unit)=>(eb ()).imp λ _ _ t=>PrV.ext t e7;have a6:=ec.ext e7;have b5:=eg.ext e7;have j3:=e7.2 K a _ j2;have en:=e7.at hh;have c0:=e7.at ei;have c3:=e7.at ej;exists aS;clear d1 d2 d3 mv eb ec eg j2 hh ei ej j1 e7;simp! only [-pQ];refine uy (λ σ' H'=>σ'=[%[a|45],%[pl|45],%[x1|45],%[x2|45],%[w1|45],%[w2|45],%[re|45],%[D|45],%[x7|45],none,none]/\Ext H7 H') (λ oL hn=>?_) ?_
  ·exists hn;clear kk
   rcases aS () with ⟨os,r,hx,tr,hok,j4⟩|⟨L,Y,r,ys,hx,j5,hR,g0,j7,kc,m1,cb⟩
   ·have ep:j6 ms ws rs os=true:=by rw [←hK () os,hZ ()];exact Sr.mpr j4
    have m2:=tr;obtain⟨us,hu,kn⟩:=m2;exists hok;exists kn;clear j4 aS;ac_rfl;rw [qH];refine⟨ms,os,ws,rs,en,tr,hok (),c0,c3,hsz (),dz,d0,bS (),λ H8 e8=>?_⟩;rw [ep];have hT:=e8.at hx;have m6:=e8.at hu;ac_rfl;intro q9 H9 m8 e9 h9;have c8:=e8.trans e9;have t9:aR H9 q9 (os.map λ o=>[o.1,o.2]):=⟨us,h9,(kn ()).imp λ _ _ t=>bE.ext t c8⟩;have hW:=iJ (hok ()) t9;have hX:=e9.at hT;clear m8 hT m6 h9 t9;ac_rfl;rw [qI];refine⟨room,f1,f2,_,_,ms,os,a6.ext c8,b5.ext c8,cF,cS,a5 (),b3 (),c6,b4 (),hW,kL (hok ()),λ kv cf=>?_⟩;rw [a4 (),a8 (),ep];have a7:=c8.trans cf;have n4:=cf.at hX;obtain⟨dx,D0,n5,_⟩:=(a6.ext a7).ob;have g1:=eU room f1 D0
    by_cases hr4:room<=4096
    ·clear hX hW e8 e9 c8 cf;ac_rfl;rw [EN];refine⟨room,f1,f2,A,B,ms,os,a6.ext a7,b5.ext a7,f9 (),gm (),hsz (),lz,hr4,i1,i2,by rw [gW ()];exact bS (),tr.ext a7,hok (),by rw [gW (),hF ()];exact ep,λ kx de=>?_⟩;have ky:=hn () _ kx ⟨rfl,a7.trans de⟩;clear hn;ac_rfl
    ·have ky:=hn () _ kv ⟨rfl,a7⟩;clear hX hW e8 e9 c8 cf hn;ac_rfl;simp
   ·have ho:rR ms.length L:=λ z hz=>d6 () z (cb z hz);have et:=g0.some ho kc λ z hz=>(aX () z (cb z hz)).1;have ew:∀ z∈Y,z∈Z:=λ z hz=>cb z (g0.1 z hz);have kE:=BK (Z:=Z) g0 j7 cb et;have nf:hbB Y ms.length=true:=by rw [←u9 ew];exact kE
    have hp:∀ z∈Y,InR ms z.1/\InR ms z.2:=λ z hz=>(aX () z (ew z hz)).2;have kQ:rR ms.length Y:=λ z hz=>d6 () z (ew z hz);exists hR;exists hp;exists ew;exists et;exists kQ;clear g0 j7 cb kc ho aS;ac_rfl;rw [EO];refine⟨Y,Z,ys,zs,ms.length,rfl,h8,j5,hR (),hQ,el (),i3,et (),m1,kQ (),ew (),nf,λ H8 e8=>?_⟩;have hT:=e8.at hx;have bx:=oM (ms:=ms) (Z:=Z) (e8.at j5) ((hR ()).imp λ _ _ t=>PrV.ext t e8) %[0|8] (hp ());rw [kE] at bx;exists bx;ac_rfl;rw [oI];refine⟨room,f1,f2,_,_,ms,Z,true,a6.ext e8,b5.ext e8,cF,cS,a5 (),b3 (),c6,b4 (),by rw [a4 (),a8 ()];exact hZ (),bx (),λ H9 e9=>?_⟩;have ky:=hn () _ H9 ⟨rfl,e8.trans e9⟩;clear hn bx;ac_rfl;simp
  rintro _ H8 ⟨rfl,e8⟩;have kT:=e8.at hQ;have ey:=λ (_:Unit)=>(el ()).imp λ _ _ t=>PrV.ext t e8;have ez:=a6.ext e8;have eH:=b5.ext e8;have k4:=e8.2 K a _ j3;have ht:=e8.at en;have e0:=e8.at c0;have e4:=e8.at c3;have g4:0 < 1+(zs.length:Int) / 300:=by omega
  exists g4;clear aS hQ el a6 b5 j3 en c0 c3 e8;ac_rfl;refine⟨g4 (),?_⟩;intro s9 H9 ni e9 h9;have k6:=λ (_:Unit)=>JJ (k:=1+(zs.length:Int) / 300) (ey ());have nj:=qe (g4 ()) Z;have g5:=λ (_:Unit)=>λ (z:PP) (hz:z∈fW (1+(zs.length:Int) / 300) Z)=>zJ hz;generalize fW (1+(zs.length:Int) / 300) zs=ss at *;generalize fW (1+(zs.length:Int) / 300) Z=S at *;clear ni g4;ac_rfl;intro o3 kv k7 cf k8;have cm:=e9.trans cf;have c4:=λ (_:Unit)=>(k6 ()).imp λ _ _ t=>PrV.ext t cm;have bx:=λ (_:Unit)=>oM (ms:=ms) (Z:=Z) k8 (c4 ()) %[0|8] λ z hz=>(aX () z (g5 () z hz)).2;have fa:=cf.at h9;have hY:=u9 (n:=ms.length) (g5 ());have h5:rR ms.length S:=λ z hz=>d6 () z (g5 () z hz);exists h5;exists hY;clear k7 h9;ac_rfl;rw [oI];refine⟨room,f1,f2,_,_,ms,Z,_,ez.ext cm,eH.ext cm,cF,cS,a5 (),b3 (),c6,b4 (),by rw [a4 (),a8 ()];exact hZ (),bx (),λ kx de=>?_⟩;rw [hY ()];have fb:=cm.trans de;have fo:=fb.at ht;ac_rfl;rw [u5];refine⟨S,ss,ms.length,rfl,h8,de.at fa,(c4 ()).imp λ _ _ t=>PrV.ext t de,by omega,h5 (),λ o4 h7=>?_⟩;have fu:=fb.trans h7;have fv:=h7.at fo;have hA:=fu.2 K a _ k4;generalize hbB S ms.length=bb;clear k6 c4 bx hY h5 fa k8 fo e9 cf cm de fb h7 nj g5;ac_rfl;refine⟨by omega,by omega,?_⟩;refine dF (List.range ((ms.length:Int)).toNat) (λ _=>true) (λ j x H'=>x=.int (0+(j:Nat))) (λ D k y H'=>LoP H' k y) di.1 di.2 (λ D _ y H1 H2 ⟨g,j,h1,h2,h3⟩ e=>⟨g,j,h1,e.at h2,h3⟩) (λ D _ y H1 xs o ⟨g,j,h1,h2,h3⟩ hD=>⟨g,j,h1,by rw [ah (λ z=>by rw [z,hD] at h2;cases h2)];exact h2,h3⟩) (ak (by rw [RL];omega)) ?_ ?_
  ·intro D' k x H' N1 N0 hk o5 e _ hx k1 _;subst hx;have hM:=k1 rfl;have hK:=RO.mp hk;have nq:=e.2 K a _ hA;clear k1 hk kk;simp! only [↓aL,↓aJ];intro q1 G1 _ g1 u1;have la:=g1.2 K a _ nq;ac_rfl;rw [b8];refine⟨la,hl,⟨by omega,by omega⟩,by decide,λ z z0 z1=>?_⟩;ac_rfl;refine kP (λ j=>j=1\/j=-1) z0 z1 (λ v hv=>?_) λ j hj=>?_
   ·simp only [Rz,Rv,RV] at hv
    rcases hv with rfl|rfl
    ·exact⟨_,rfl,.inl rfl⟩
    ·exact⟨_,rfl,.inr rfl⟩
   clear u1;ac_rfl;intro t2 G2 _ g2 u2;exact hM _ G2 (g1.trans g2) ⟨t2,j,rfl,by rw [u2,RZ],hj⟩
  intro Do lb nt nD ih lk fx;rw [ix,Rt] at fx;obtain⟨os,hok,lr⟩:=Lg fx;have hB:aR nt Do (os.map λ o=>[o.1,o.2]):=⟨lb,lk,lr⟩;have a3:=fu.trans ih;have n6:=a3.at kT;have fy:=(ey ()).imp λ _ _ t=>PrV.ext t a3;have ct:=uA zs 1 ⋯;have ij:=sT fy 1;have il:=GU (d6 ()) λ z hz=>(aX () z hz).1;have lx:(Z.take 1).length<=4096:=by rw [R0];omega
  have ip:∀ z∈Z.take 1,InR ms z.1/\InR ms z.2:=λ z hz=>(aX () z (Sk hz)).2;have f3:=ez.ext a3;have f5:=eH.ext a3;have iv:=ih.at fv;have g6:=a3.at e0;have g7:=a3.at e4;exists hok;exists il;exists ip;exists ij;clear fx lr nD kT ey fy ez eH k4 ht e0 e4 fv hA fu a3 ih lk;ac_rfl;intro o6 o7 _ g8 ly;have bx:=λ (_:Unit)=>oM (ms:=ms) (Z:=Z) ly ((ij ()).imp λ _ _ t=>PrV.ext t g8) lx (ip ());ac_rfl;rw [oI];refine⟨room,f1,f2,_,_,ms,Z,_,f3.ext g8,f5.ext g8,cF,cS,a5 (),b3 (),c6,b4 (),by rw [a4 (),a8 ()];exact hZ (),bx (),λ pa nT=>?_⟩;rw [il ()];have a9:=g8.trans nT;have hC:=iJ (hok ()) (hB.ext a9);clear bx ly il ip ij ct lx;ac_rfl;rw [qI];refine⟨room,f1,f2,_,_,ms,os,f3.ext a9,f5.ext a9,cF,cS,a5 (),b3 (),c6,b4 (),hC,kL (hok ()),λ pz n0=>?_⟩;rw [a4 (),a8 ()];have bt:=a9.trans n0;generalize ep:j6 ms ws rs os=kb;ac_rfl;rw [qH];refine⟨ms,os,ws,rs,bt.at iv,hB.ext bt,hok (),bt.at g6,bt.at g7,hsz (),dz,d0,bS (),λ n1 p0=>?_⟩;rw [ep];have k':=kk () n1;clear kk hC;ac_rfl
end
def QG{l:W.OpenLaw}{w:World}{K:W.Frag}{h:Heap}{mg:Str->Option Value}{fa:Addr}(X:K.In h)(G:h.Ns mainGlobals mg)(q2:mg "law"=%[fa|45])
  {C0:Addr} (y0:W.nsIn K mainGlobals "PaceError"=some (%[C0|45]))
  {C1:Addr} (y1:W.nsIn K mainGlobals "NoPlace"=some (%[C1|45]))
  {C2:Addr} (y2:W.nsIn K mainGlobals "NoCells"=some (%[C2|45]))
  {C3:Addr} (y3:W.nsIn K mainGlobals "NoView"=some (%[C3|45]))
  {C4:Addr} (y4:W.nsIn K mainGlobals "NoCount"=some (%[C4|45]))
  {C5:Addr} (y5:W.nsIn K mainGlobals "NoPair"=some (%[C5|45]))
  {C6:Addr} (y6:W.nsIn K mainGlobals "NoOrder"=some (%[C6|45]))
  {C7:Addr} (y7:W.nsIn K mainGlobals "TooMany"=some (%[C7|45]))
  {C8:Addr} (y8:W.nsIn K mainGlobals "Twice"=some (%[C8|45]))
  {C9:Addr} (y9:W.nsIn K mainGlobals "View"=some (%[C9|45]))
  {bx:Addr} (q3:W.nsIn K mainGlobals "Store"=some (%[bx|45]))
  {f0:Addr} {d0:FuncData} (F0:Fun K "__init__" "TooMany.__init__" eo f0 d0)
  {f1:Addr} {d1:FuncData} (F1:Fun K "__init__" "Twice.__init__" fQ f1 d1)
  {f2:Addr} {d2:FuncData} (a2:W.nsIn K mainGlobals "is_whole"=some (%[f2|45])) (F2:Fun K "is_whole" "is_whole" ji f2 d2)
  {f3:Addr} {d3:FuncData} (a3:W.nsIn K mainGlobals "count_of"=some (%[f3|45])) (F3:Fun K "count_of" "count_of" jj f3 d3)
  {f4:Addr} {d4:FuncData} (a4:W.nsIn K mainGlobals "paces_of"=some (%[f4|45])) (F4:Fun K "paces_of" "paces_of" jh f4 d4)
  {f5:Addr} {d5:FuncData} (a5:W.nsIn K mainGlobals "is_number_below"=some (%[f5|45])) (F5:Fun K "is_number_below" "is_number_below" cN f5 d5)
  {f6:Addr} {d6:FuncData} (a6:W.nsIn K mainGlobals "is_place"=some (%[f6|45])) (F6:Fun K "is_place" "is_place" gG f6 d6)
  {f7:Addr} {d7:FuncData} (a7:W.nsIn K mainGlobals "split_number"=some (%[f7|45])) (F7:Fun K "split_number" "split_number" eB f7 d7)
  {f8:Addr} {d8:FuncData} (a8:W.nsIn K mainGlobals "place_at"=some (%[f8|45])) (F8:Fun K "place_at" "place_at" jg f8 d8)
  {f9:Addr} {d9:FuncData} (a9:W.nsIn K mainGlobals "refuse_long"=some (%[f9|45])) (F9:Fun K "refuse_long" "refuse_long" fD f9 d9)
  {hE:Addr} {q4:FuncData} (q5:W.nsIn K mainGlobals "places"=some (%[hE|45])) (la:Fun K "places" "places" jP hE q4)
  {hF:Addr} {q6:FuncData} (q7:W.nsIn K mainGlobals "is_within"=some (%[hF|45])) (lb:Fun K "is_within" "is_within" hJ hF q6)
  {hI:Addr} {q8:FuncData} (q9:W.nsIn K mainGlobals "is_size"=some (%[hI|45])) (lk:Fun K "is_size" "is_size" kI hI q8)
  {hK:Addr} {ra:FuncData} (rb:W.nsIn K mainGlobals "is_axis"=some (%[hK|45])) (lr:Fun K "is_axis" "is_axis" kK hK ra)
  {hL:Addr} {ri:FuncData} (rj:W.nsIn K mainGlobals "are_axes"=some (%[hL|45])) (lx:Fun K "are_axes" "are_axes" gH hL ri)
  {hM:Addr} {ro:FuncData} (rr:W.nsIn K mainGlobals "kept_axis"=some (%[hM|45])) (ly:Fun K "kept_axis" "kept_axis" hG hM ro)
  {g5:Addr} {ru:FuncData} (lz:Fun K "__init__" "View.__init__" cC g5 ru)
  {g6:Addr} {rv:FuncData} (hN:Fun K "sizes" "View.sizes" ed g6 rv)
  {g7:Addr} {rx:FuncData} (hO:Fun K "paces" "View.paces" ee g7 rx)
  {g8:Addr} {ry:FuncData} (hP:Fun K "count" "View.count" gq g8 ry)
  {hb:Addr} {rz:FuncData} (hQ:Fun K "cell" "View.cell" fq hb rz)
  {hc:Addr} {r0:FuncData} (hR:Fun K "cells" "View.cells" gr hc r0)
  {hg:Addr} {r3:FuncData} (hS:Fun K "least" "View.least" ef hg r3)
  {hh:Addr} {r4:FuncData} (hT:Fun K "greatest" "View.greatest" cB hh r4)
  {hW:Addr} {r5:FuncData} (r6:W.nsIn K mainGlobals "widened"=some (%[hW|45])) (l1:Fun K "widened" "widened" iI hW r5)
  {l2:Addr} {l3:Value} {l5:Option Addr} {l6:Nat} {l7:Array (Option Value)}
  {hj:Addr} {l8 mc:Option Addr} {mu:Array (Option Value)} {mv m1 m2 m6 hu m8:Value}
  (r7:W.nsIn K mainGlobals "whole"=some (%[hj|45])) (r8:K.lookup hj=some ⟨mv,l8,.func (W.fnOf "whole" "whole" (eA i8) (c9 i8) (aa i8) (.ref l2) m1 m2 m6 mc hu m8),mu⟩)
  (nf:K.lookup l2=some ⟨l3,l5,.seq #[Value.none] l6,l7⟩)
  (r9:W.codeIn K hu "whole"=true) (sb:W.keepIn K (.ref hj)=true)
  {hX:Addr} {sd:FuncData} (se:W.nsIn K mainGlobals "has_twice"=some (%[hX|45])) (ni:Fun K "has_twice" "has_twice" hU hX sd)
  {hY:Addr} {sg:FuncData} (sh:W.nsIn K mainGlobals "refuse_rooms"=some (%[hY|45])) (nj:Fun K "refuse_rooms" "refuse_rooms" eD hY sg)
  {hZ:Addr} {so:FuncData} (s6:W.nsIn K mainGlobals "is_loop"=some (%[hZ|45])) (nq:Fun K "is_loop" "is_loop" kJ hZ so)
  {h3:Addr} {s7:FuncData} (s8:W.nsIn K mainGlobals "is_order"=some (%[h3|45])) (nt:Fun K "is_order" "is_order" eV h3 s7)
  {h4:Addr} {s9:FuncData} (tp:W.nsIn K mainGlobals "refuse_order"=some (%[h4|45])) (nD:Fun K "refuse_order" "refuse_order" eE h4 s9)
  {h5:Addr} {tq:FuncData} (tr:W.nsIn K mainGlobals "refuse_sizes_unlike"=some (%[h5|45])) (nT:Fun K "refuse_sizes_unlike" "refuse_sizes_unlike" bP h5 tq)
  {h6:Addr} {tD:FuncData} (t2:W.nsIn K mainGlobals "place_by_steps"=some (%[h6|45])) (n0:Fun K "place_by_steps" "place_by_steps" df h6 tD)
  {h7:Addr} {t4:FuncData} (t8:W.nsIn K mainGlobals "walk_of"=some (%[h7|45])) (n1:Fun K "walk_of" "walk_of" gd h7 t4)
  {h8:Addr} {t9:FuncData} (uq:W.nsIn K mainGlobals "looped"=some (%[h8|45])) (n2:Fun K "looped" "looped" om h8 t9)
  {h9:Addr} {u0:FuncData} (u1:W.nsIn K mainGlobals "refuse_twice"=some (%[h9|45])) (n3:Fun K "refuse_twice" "refuse_twice" eC h9 u0)
  {ih:Addr} {u2:FuncData} (vo:W.nsIn K mainGlobals "places_written_anew"=some (%[ih|45])) (n4:Fun K "places_written_anew" "places_written_anew" bQ ih u2)
  {ij:Addr} {vr:FuncData} (vu:W.nsIn K mainGlobals "bound_pairs"=some (%[ij|45])) (n5:Fun K "bound_pairs" "bound_pairs" fF ij vr)
  {il:Addr} {vv:FuncData} (vx:W.nsIn K mainGlobals "gap"=some (%[il|45])) (n6:Fun K "gap" "gap" FQ il vv)
  {ip:Addr} {v3:FuncData} (v5:W.nsIn K mainGlobals "comes_right"=some (%[ip|45])) (n7:Fun K "comes_right" "comes_right" fE ip v3)
  {iv:Addr} {v7:FuncData} (wc:W.nsIn K mainGlobals "keeps"=some (%[iv|45])) (n8:Fun K "keeps" "keeps" nE iv v7)
  {iz:Addr} {wh:FuncData} (wi:W.nsIn K mainGlobals "helpful_loop"=some (%[iz|45])) (oj:Fun K "helpful_loop" "helpful_loop" cQ iz wh)
  {i0:Addr} {wk:FuncData} (wo:W.nsIn K mainGlobals "barring_pairs"=some (%[i0|45])) (oo:Fun K "barring_pairs" "barring_pairs" bO i0 wk)
  {i1:Addr} {wy:FuncData} (w7:W.nsIn K mainGlobals "loop_order"=some (%[i1|45])) (oD:Fun K "loop_order" "loop_order" ck i1 wy)
  {i2:Addr} {w8:FuncData} (w9:W.nsIn K mainGlobals "is_known_pair"=some (%[i2|45])) (oL:Fun K "is_known_pair" "is_known_pair" dN i2 w8)
  {i3:Addr} {xD:FuncData} (x1:W.nsIn K mainGlobals "bars_axis"=some (%[i3|45])) (o1:Fun K "bars_axis" "bars_axis" fi i3 xD)
  {i4:Addr} {x2:FuncData} (x3:W.nsIn K mainGlobals "bars"=some (%[i4|45])) (o2:Fun K "bars" "bars" pM i4 x2)
  {i5:Addr} {x4:FuncData} (x6:W.nsIn K mainGlobals "refuse_count"=some (%[i5|45])) (o3:Fun K "refuse_count" "refuse_count" eF i5 x4)
  {hk:Addr} {x7:FuncData} (o4:Fun K "__init__" "Store.__init__" dg hk x7)
  {ho:Addr} {x9:FuncData} (i7:Fun K "all_values" "Store.all_values" cD ho x9)
  {hp:Addr} {za:FuncData} (jz:Fun K "refuse_room" "Store.refuse_room" cc hp za)
  {hq:Addr} {zb:FuncData} (j0:Fun K "read" "Store.read" eh hq zb)
  {hs:Addr} {zi:FuncData} (j1:Fun K "put" "Store.put" ia hs zi)
  {ht:Addr} {zj:FuncData} (j2:Fun K "copied" "Store.copied" eG ht zj)
  {j3:Addr} {zl:FuncData} (zm:W.nsIn K mainGlobals "_law_draw"=some (%[j3|45])) (o5:Fun K "_law_draw" "_law_draw" hV j3 zl)
  {j4:Addr} {A1:FuncData} (A2:W.nsIn K mainGlobals "_law_least"=some (%[j4|45])) (o6:Fun K "_law_least" "_law_least" dY j4 A1)
  {j5:Addr} {CS:FuncData} (CV:W.nsIn K mainGlobals "_law_most"=some (%[j5|45])) (o7:Fun K "_law_most" "_law_most" fk j5 CS)
  {j7:Addr} {D0:FuncData} (D1:W.nsIn K mainGlobals "_law_cells"=some (%[j7|45])) (pa:Fun K "_law_cells" "_law_cells" dZ j7 D0)
  {kc:Addr} {D2:FuncData} (D3:W.nsIn K mainGlobals "_law_places"=some (%[kc|45])) (pz:Fun K "_law_places" "_law_places" dr kc D2)
  {kk:Addr} {D4:FuncData} (D5:W.nsIn K mainGlobals "_law_pairs"=some (%[kk|45])) (p0:Fun K "_law_pairs" "_law_pairs" gk kk D4)
  {kn:Addr} {D6:FuncData} (D7:W.nsIn K mainGlobals "_law_walk"=some (%[kn|45])) (p1:Fun K "_law_walk" "_law_walk" fj kn D6)
  {kv:Addr} {G1:FuncData} (G2:W.nsIn K mainGlobals "_law_number"=some (%[kv|45])) (p3:Fun K "_law_number" "_law_number" fG kv G1)
  {kx:Addr} {G3:FuncData} (G4:W.nsIn K mainGlobals "_law_keeps"=some (%[kx|45])) (p4:Fun K "_law_keeps" "_law_keeps" gn kx G3)
  {ky:Addr} {G5:FuncData} (G6:W.nsIn K mainGlobals "_law_some_sizes"=some (%[ky|45])) (p5:Fun K "_law_some_sizes" "_law_some_sizes" cO ky G5)
  {kE:Addr} {G7:FuncData} (G8:W.nsIn K mainGlobals "_law_views"=some (%[kE|45])) (p6:Fun K "_law_views" "_law_views" gj kE G7)
  {kQ:Addr} {HT:FuncData} (H0:W.nsIn K mainGlobals "_law_has_both"=some (%[kQ|45])) (qa:Fun K "_law_has_both" "_law_has_both" cA kQ HT)
  {kT:Addr} {H3:FuncData} (H4:W.nsIn K mainGlobals "_law_is_bar"=some (%[kT|45])) (qb:Fun K "_law_is_bar" "_law_is_bar" fH kT H3)
  {k4:Addr} {H5:FuncData} (H6:W.nsIn K mainGlobals "_law_left"=some (%[k4|45])) (qc:Fun K "_law_left" "_law_left" fm k4 H5)
  {k6:Addr} {qn hv:Option Addr} {qq:Array (Option Value)} {qs hy hA hB fy hC:Value}
  (q0:W.nsIn K mainGlobals "law"=some (%[k6|45])) (H7:K.lookup k6=some ⟨qs,qn,.func (W.fnOf "law" "law" (eA jZ) (c9 jZ) (aa jZ) .none hy hA hB hv fy hC),qq⟩)
  (H8:W.codeIn K fy "law"=true) (H9:W.keepIn K (.ref k6)=true)
  (hD:W.findIn K (.ref C7) "__init__"=some (%[f0|45]))
  (eH:yg K C7 f0 [.type "ValueError",.type "Exception",.type "BaseException",.type "object"] "ValueError.__new__"=true)
  (e0:W.typeIn K (.ref f0)=some (.type "function"))
  (e1:sQ K C7=true)
  (e2:W.findIn K (.ref C7) "__setattr__"=some (some (.builtin "object.__setattr__")))
  (e3:W.hasDictIn K C7=true)
  (bS:W.takerIn K C7 "number"=some none)
  (b1:W.findIn K (.ref C7) "number"=some none)
  (ec:W.specialIn K (.ref C0) "__getattribute__"=some (some (.builtin "type.__getattribute__")))
  (eg:W.readsIn K C0 (.type "type")=true)
  (ei:W.findCls K (.ref C0) (.type "type") "__init__"=some (.val (.builtin "ValueError.__init__")))
  (k8:W.findIn K (.ref C8) "__init__"=some (%[f1|45]))
  (e4:yg K C8 f1 [.type "ValueError",.type "Exception",.type "BaseException",.type "object"] "ValueError.__new__"=true)
  (e5:W.typeIn K (.ref f1)=some (.type "function"))
  (e6:sQ K C8=true)
  (e7:W.findIn K (.ref C8) "__setattr__"=some (some (.builtin "object.__setattr__")))
  (e8:W.hasDictIn K C8=true)
  (ej:W.takerIn K C8 "one"=some none)
  (el:W.findIn K (.ref C8) "one"=some none)
  (cS:W.takerIn K C8 "other"=some none)
  (cT:W.findIn K (.ref C8) "other"=some none)
  (gm:W.plainGet K C9 Str.empty=true)
  (gp:W.hasDictIn K C9=true)
  (gs:W.plainOver K C9=true)
  (gW:W.findIn K (.ref C9) "__setattr__"=some (some (.builtin "object.__setattr__")))
  (en:W.findIn K (.ref C9) "axes"=some none)
  (c1:W.findIn K (.ref C9) "first"=some none)
  (ep:W.findIn K (.ref C9) "room"=some none)
  (b4:W.findIn K (.ref C9) "__init__"=some (%[g5|45]))
  (b5:W.isFn K (.ref g5)=true)
  (g0:W.makesIn K C9=true)
  (g4:W.keepIn K (.ref C9)=true)
  (c2:W.findIn K (.ref C9) "sizes"=some (%[g6|45]))
  (c3:W.isFn K (.ref g6)=true)
  (c4:W.findIn K (.ref C9) "paces"=some (%[g7|45]))
  (c5:W.isFn K (.ref g7)=true)
  (c6:W.findIn K (.ref C9) "count"=some (%[g8|45]))
  (c7:W.isFn K (.ref g8)=true)
  (et:W.findIn K (.ref C9) "cell"=some (%[hb|45]))
  (ew:W.isFn K (.ref hb)=true)
  (c8:W.findIn K (.ref C9) "cells"=some (%[hc|45]))
  (de:W.isFn K (.ref hc)=true)
  (dy:W.findIn K (.ref C9) "least"=some (%[hg|45]))
  (dz:W.isFn K (.ref hg)=true)
  (cb:W.findIn K (.ref C9) "greatest"=some (%[hh|45]))
  (cf:W.isFn K (.ref hh)=true)
  (e9:W.plainGet K bx Str.empty=true)
  (fb:W.hasDictIn K bx=true)
  (fo:W.plainOver K bx=true)
  (fu:W.findIn K (.ref bx) "__setattr__"=some (some (.builtin "object.__setattr__")))
  (c0:W.findIn K (.ref bx) "floor"=some none)
  (b2:W.findIn K (.ref bx) "__init__"=some (%[hk|45]))
  (b3:W.isFn K (.ref hk)=true)
  (fv:W.makesIn K bx=true)
  (fx:W.keepIn K (.ref bx)=true)
  (bb:W.findIn K (.ref bx) "all_values"=some (%[ho|45]))
  (bt:W.isFn K (.ref ho)=true)
  (aS:W.findIn K (.ref bx) "refuse_room"=some (%[hp|45]))
  (aX:W.isFn K (.ref hp)=true)
  (ea:W.findIn K (.ref bx) "read"=some (%[hq|45]))
  (eb:W.isFn K (.ref hq)=true)
  (ey:W.findIn K (.ref bx) "put"=some (%[hs|45]))
  (ez:W.isFn K (.ref hs)=true)
  (cm:W.findIn K (.ref bx) "copied"=some (%[ht|45]))
  (cF:W.isFn K (.ref ht)=true)
  {IY:Tok} (w0:W.nsIn K mainGlobals "MOST_TOLD"=some (some (.int 4096 IY)))
  {I1:Tok} (w1:W.nsIn K mainGlobals "MOST_ROOM"=some (some (.int 1000000000000000000 I1)))
  {I2:Tok} (w2:W.nsIn K mainGlobals "MOST_SIZE"=some (some (.int 1000000000 I2)))
  {I3:Tok} (w3:W.nsIn K mainGlobals "MOST_AXES"=some (some (.int 8 I3)))
  (z0:W.nsIn K mainGlobals "ValueError"=some none)
  (z1:W.nsIn K mainGlobals "all"=some none)
  (z2:W.nsIn K mainGlobals "bool"=some none)
  (z3:W.nsIn K mainGlobals "enumerate"=some none)
  (z4:W.nsIn K mainGlobals "int"=some none)
  (z5:W.nsIn K mainGlobals "isinstance"=some none)
  (z6:W.nsIn K mainGlobals "len"=some none)
  (z7:W.nsIn K mainGlobals "list"=some none)
  (z8:W.nsIn K mainGlobals "max"=some none)
  (z9:W.nsIn K mainGlobals "min"=some none)
  (I4:W.nsIn K mainGlobals "range"=some none)
  (I5:W.nsIn K mainGlobals "reversed"=some none)
  (I6:W.nsIn K mainGlobals "set"=some none)
  (I7:W.nsIn K mainGlobals "sum"=some none)
  (I8:W.nsIn K mainGlobals "tuple"=some none)
  (I9:W.nsIn K mainGlobals "zip"=some none)
  : ∃ fd:FuncData,(∀ (s:Shared) (v:Value),BindsTo s fd ⟨[v],[]⟩ [("_law_script",v)])/\∀ base:Heap,K.In base->base.Ns mainGlobals mg->bh l.prog w K mg base CX0 11 fa fd ["_law_script"] (xm K):=by
 have e:=q2.symm.trans (RN X G q0);cases e;have KX:=Jy (st:=i8) r8 r9 sb;have q1:=M4 (st:=jZ) H7 H8 H9;have T:Tx K mg ⟨C0,C1,C2,C3,C4,C5,C6,C7,C8,C9,bx,f0,_,f1,_,f2,_,f3,_,f4,_,f5,_,f6,_,f7,_,f8,_,f9,_,hE,_,hF,_,hI,_,hK,_,hL,_,hM,_,g5,_,g6,_,g7,_,g8,_,hb,_,hc,_,hg,_,hh,_,hW,_,hj,_,hX,_,hY,_,hZ,_,h3,_,h4,_,h5,_,h6,_,h7,_,h8,_,h9,_,ih,_,ij,_,il,_,ip,_,iv,_,iz,_,i0,_,i1,_,i2,_,i3,_,i4,_,i5,_,hk,_,ho,_,hp,_,hq,_,hs,_,ht,_,j3,_,j4,_,j5,_,j7,_,kc,_,kk,_,kn,_,kv,_,kx,_,ky,_,kE,_,kQ,_,kT,_,k4,_,fa,_⟩:=⟨RN X G y0,RN X G y1,RN X G y2,RN X G y3,RN X G y4,RN X G y5,RN X G y6,RN X G y7,RN X G y8,RN X G y9,RN X G q3,⟨_,RN X G w0⟩,⟨_,RN X G w1⟩,⟨_,RN X G w2⟩,⟨_,RN X G w3⟩,⟨eH,e0,⟨e1,e2,e3⟩⟩,bS,b1,⟨ec,eg,ei⟩,⟨e4,e5,⟨e6,e7,e8⟩⟩,ej,el,cS,cT,⟨gm,gp,gs,gW⟩,en,c1,ep,⟨g0,b4,b5,g4⟩,⟨c2,c3,hN.kp⟩,⟨c4,c5,hO.kp⟩,⟨c6,c7,hP.kp⟩,⟨et,ew,hQ.kp⟩,⟨c8,de,hR.kp⟩,⟨dy,dz,hS.kp⟩,⟨cb,cf,hT.kp⟩,⟨e9,fb,fo,fu⟩,c0,⟨fv,b2,b3,fx⟩,⟨bb,bt,i7.kp⟩,⟨aS,aX,jz.kp⟩,⟨ea,eb,j0.kp⟩,⟨ey,ez,j1.kp⟩,⟨cm,cF,j2.kp⟩,F0,F0.binds (ps:=["self", "number"]) (λ _ _ _ _ _ _=>gT (λ _ _=>rfl)),F1,F1.binds (ps:=["self", "one", "other"]) (λ _ _ _ _ _ _=>rP (λ _ _ _=>rfl)),F2,RN X G a2,F2.binds (ps:=["thing"]) (λ _ _ _ _ _ _=>lY (λ _=>rfl)),F3,RN X G a3,F3.binds (ps:=["sizes"]) (λ _ _ _ _ _ _=>lY (λ _=>rfl)),F4,RN X G a4,F4.binds (ps:=["sizes"]) (λ _ _ _ _ _ _=>lY (λ _=>rfl)),F5,RN X G a5,F5.binds (ps:=["thing", "bound"]) (λ _ _ _ _ _ _=>gT (λ _ _=>rfl)),F6,RN X G a6,F6.binds (ps:=["sizes", "thing"]) (λ _ _ _ _ _ _=>gT (λ _ _=>rfl)),F7,RN X G a7,F7.binds (ps:=["sizes", "number"]) (λ _ _ _ _ _ _=>gT (λ _ _=>rfl)),F8,RN X G a8,F8.binds (ps:=["sizes", "number"]) (λ _ _ _ _ _ _=>gT (λ _ _=>rfl)),F9,RN X G a9,F9.binds (ps:=["count"]) (λ _ _ _ _ _ _=>lY (λ _=>rfl)),la,RN X G q5,la.binds (ps:=["sizes"]) (λ _ _ _ _ _ _=>lY (λ _=>rfl)),lb,RN X G q7,lb.binds (ps:=["thing", "low", "high"]) (λ _ _ _ _ _ _=>rP (λ _ _ _=>rfl)),lk,RN X G q9,lk.binds (ps:=["thing"]) (λ _ _ _ _ _ _=>lY (λ _=>rfl)),lr,RN X G rb,lr.binds (ps:=["thing"]) (λ _ _ _ _ _ _=>lY (λ _=>rfl)),lx,RN X G rj,lx.binds (ps:=["thing"]) (λ _ _ _ _ _ _=>lY (λ _=>rfl)),ly,RN X G rr,ly.binds (ps:=["axis"]) (λ _ _ _ _ _ _=>lY (λ _=>rfl)),lz,lz.binds (ps:=["self", "room", "first", "axes"]) (λ _ _ _ _ _ _=>NV (λ _ _ _ _=>rfl)),hN,hN.binds (ps:=["self"]) (λ _ _ _ _ _ _=>lY (λ _=>rfl)),hO,hO.binds (ps:=["self"]) (λ _ _ _ _ _ _=>lY (λ _=>rfl)),hP,hP.binds (ps:=["self"]) (λ _ _ _ _ _ _=>lY (λ _=>rfl)),hQ,hQ.binds (ps:=["self", "place"]) (λ _ _ _ _ _ _=>gT (λ _ _=>rfl)),hR,hR.binds (ps:=["self"]) (λ _ _ _ _ _ _=>lY (λ _=>rfl)),hS,hS.binds (ps:=["self"]) (λ _ _ _ _ _ _=>lY (λ _=>rfl)),hT,hT.binds (ps:=["self"]) (λ _ _ _ _ _ _=>lY (λ _=>rfl)),l1,RN X G r6,l1.binds (ps:=["cells", "size", "pace"]) (λ _ _ _ _ _ _=>rP (λ _ _ _=>rfl)),KX,RN X G r7,(λ s us k7 hl=>match us,(show us.length=2 by simp only [RI,Sy,Vj] at hl;omega) with|[_,_],_=>BindsTo.of_defaults rfl (k7 _ _ nf) rfl rfl rfl),(λ s us k7 hl=>match us,(show us.length=1 by simp only [RI,Sy,Vj] at hl;omega) with|[_],_=>BindsTo.of_defaults rfl (k7 _ _ nf) rfl rfl rfl),ni,RN X G se,ni.binds (ps:=["view"]) (λ _ _ _ _ _ _=>lY (λ _=>rfl)),nj,RN X G sh,nj.binds (ps:=["one", "other"]) (λ _ _ _ _ _ _=>gT (λ _ _=>rfl)),nq,RN X G s6,nq.binds (ps:=["thing", "many"]) (λ _ _ _ _ _ _=>gT (λ _ _=>rfl)),nt,RN X G s8,nt.binds (ps:=["sizes", "thing"]) (λ _ _ _ _ _ _=>gT (λ _ _=>rfl)),nD,RN X G tp,nD.binds (ps:=["sizes", "order"]) (λ _ _ _ _ _ _=>gT (λ _ _=>rfl)),nT,RN X G tr,nT.binds (ps:=["to", "source"]) (λ _ _ _ _ _ _=>gT (λ _ _=>rfl)),n0,RN X G t2,n0.binds (ps:=["sizes", "order", "steps"]) (λ _ _ _ _ _ _=>rP (λ _ _ _=>rfl)),n1,RN X G t8,n1.binds (ps:=["sizes", "order"]) (λ _ _ _ _ _ _=>gT (λ _ _=>rfl)),n2,RN X G uq,n2.binds (ps:=["store", "to", "source", "order"]) (λ _ _ _ _ _ _=>NV (λ _ _ _ _=>rfl)),n3,RN X G u1,n3.binds (ps:=["view"]) (λ _ _ _ _ _ _=>lY (λ _=>rfl)),n4,RN X G vo,n4.binds (ps:=["to", "source", "spots"]) (λ _ _ _ _ _ _=>rP (λ _ _ _=>rfl)),n5,RN X G vu,n5.binds (ps:=["to", "source"]) (λ _ _ _ _ _ _=>gT (λ _ _=>rfl)),n6,RN X G vx,n6.binds (ps:=["pair", "axis"]) (λ _ _ _ _ _ _=>gT (λ _ _=>rfl)),n7,RN X G v5,n7.binds (ps:=["pair", "order"]) (λ _ _ _ _ _ _=>gT (λ _ _=>rfl)),n8,RN X G wc,n8.binds (ps:=["to", "source", "order"]) (λ _ _ _ _ _ _=>rP (λ _ _ _=>rfl)),oj,RN X G wi,oj.binds (ps:=["pairs", "many"]) (λ _ _ _ _ _ _=>gT (λ _ _=>rfl)),oo,RN X G wo,oo.binds (ps:=["pairs", "many"]) (λ _ _ _ _ _ _=>gT (λ _ _=>rfl)),oD,RN X G w7,oD.binds (ps:=["to", "source"]) (λ _ _ _ _ _ _=>gT (λ _ _=>rfl)),oL,RN X G w9,oL.binds (ps:=["thing", "sizes", "known"]) (λ _ _ _ _ _ _=>rP (λ _ _ _=>rfl)),o1,RN X G x1,o1.binds (ps:=["pairs", "axis"]) (λ _ _ _ _ _ _=>gT (λ _ _=>rfl)),o2,RN X G x3,o2.binds (ps:=["to", "source", "some"]) (λ _ _ _ _ _ _=>rP (λ _ _ _=>rfl)),o3,RN X G x6,o3.binds (ps:=["view", "many"]) (λ _ _ _ _ _ _=>gT (λ _ _=>rfl)),o4,o4.binds (ps:=["self", "values"]) (λ _ _ _ _ _ _=>gT (λ _ _=>rfl)),i7,i7.binds (ps:=["self"]) (λ _ _ _ _ _ _=>lY (λ _=>rfl)),jz,jz.binds (ps:=["self", "view"]) (λ _ _ _ _ _ _=>gT (λ _ _=>rfl)),j0,j0.binds (ps:=["self", "view"]) (λ _ _ _ _ _ _=>gT (λ _ _=>rfl)),j1,j1.binds (ps:=["self", "view", "values"]) (λ _ _ _ _ _ _=>rP (λ _ _ _=>rfl)),j2,j2.binds (ps:=["self", "to", "source"]) (λ _ _ _ _ _ _=>rP (λ _ _ _=>rfl)),o5,RN X G zm,o5.binds (ps:=["_law_script", "_law_k", "_law_many"]) (λ _ _ _ _ _ _=>rP (λ _ _ _=>rfl)),o6,RN X G A2,o6.binds (ps:=["_law_sizes", "_law_paces"]) (λ _ _ _ _ _ _=>gT (λ _ _=>rfl)),o7,RN X G CV,o7.binds (ps:=["_law_sizes", "_law_paces"]) (λ _ _ _ _ _ _=>gT (λ _ _=>rfl)),pa,RN X G D1,pa.binds (ps:=["_law_first", "_law_sizes", "_law_paces"]) (λ _ _ _ _ _ _=>rP (λ _ _ _=>rfl)),pz,RN X G D3,pz.binds (ps:=["_law_sizes"]) (λ _ _ _ _ _ _=>lY (λ _=>rfl)),p0,RN X G D5,p0.binds (ps:=["_law_writes", "_law_reads"]) (λ _ _ _ _ _ _=>gT (λ _ _=>rfl)),p1,RN X G D7,p1.binds (ps:=["_law_sizes", "_law_order"]) (λ _ _ _ _ _ _=>gT (λ _ _=>rfl)),p3,RN X G G2,p3.binds (ps:=["_law_sizes", "_law_place"]) (λ _ _ _ _ _ _=>gT (λ _ _=>rfl)),p4,RN X G G4,p4.binds (ps:=["_law_sizes", "_law_order", "_law_writes", "_law_reads"]) (λ _ _ _ _ _ _=>NV (λ _ _ _ _=>rfl)),p5,RN X G G6,p5.binds (ps:=["_law_script"]) (λ _ _ _ _ _ _=>lY (λ _=>rfl)),p6,RN X G G8,p6.binds (ps:=["_law_script", "_law_sizes"]) (λ _ _ _ _ _ _=>gT (λ _ _=>rfl)),qa,RN X G H0,qa.binds (ps:=["_law_some", "_law_axes"]) (λ _ _ _ _ _ _=>gT (λ _ _=>rfl)),qb,RN X G H4,qb.binds (ps:=["_law_told", "_law_due", "_law_axes"]) (λ _ _ _ _ _ _=>rP (λ _ _ _=>rfl)),qc,RN X G H6,qc.binds (ps:=["_law_one", "_law_other", "_law_order"]) (λ _ _ _ _ _ _=>rP (λ _ _ _=>rfl)),q1,RN X G q0,q1.binds (ps:=["_law_script"]) (λ _ _ _ _ _ _=>lY (λ _=>rfl)),Su X G z0,Su X G z1,Su X G z2,Su X G z3,Su X G z4,Su X G z5,Su X G z6,Su X G z7,Su X G z8,Su X G z9,Su X G I4,Su X G I5,Su X G I6,Su X G I7,Su X G I8,Su X G I9⟩;exact⟨W.fnOf "law" "law" (eA jZ) (c9 jZ) (aa jZ) .none hy hA hB hv fy hC,λ s v=>.of_eq rfl,λ base _ _=>Ls T⟩
def walk{l:W.OpenLaw}{q:Program}{loose:List Str}{XP:(Str->Option Value)->Heap->Prop}{YP:World->Heap->Prop}{d:DefRec}{K:Params->W.Frag}(hn:l.most=some 63)(aS:d.params.defaults=[])
  (hY:∀ (w:World) (h:Heap),YP w h->(K w.params).In h)
  (F:∀ (w:World) (mg:Str->Option Value) (fa:Addr) (h:Heap),(K w.params).In h->h.Ns mainGlobals mg->mg d.name=%[fa|45] →
   ∃ fd:FuncData,(∀ (s:Shared) (u:Value),BindsTo s fd ⟨[u],[]⟩ [("_law_script",u)])/\∀ base:Heap,(K w.params).In base->base.Ns mainGlobals mg->bh l.prog w (K w.params) mg base CX0 11 fa fd ["_law_script"] (xm (K w.params))) :
  W.WalkO q loose XP YP l.row.toRowW d [] (λ f vs=>PySem.call f vs):=
 L2.walk_of (n:=63) (k:=11) (x := "_law_script") (CX:=λ _=>CX0) (sp:=λ w=>xm (K w.params)) hn ⋯ aS ⟨rfl,by decide,by decide⟩ hY F (λ _ _ a ns hl _ hS=>⟨a,rfl,ns,hS,hl,λ _=>rfl⟩) λ _ _ _ _ _ z=>z
end PH
namespace PySem.W.Fast
def tw10762371779505366895:=0
def tw11761348853390835403:=0
def tw8978180610064056940:=0
def tw10741696099485360983:=0
def tw8058206718302386664:=0
def tw4195218494000388833:=0
def tw16464174393651406214:=0
def tw4398792997205707913:=0
def tw9309083239872226571:=0
def tw3261048651565292132:=0
def tw2553088943413119999:=0
def tw2476592936778065343:=0
def tw9792586974805263097:=0
def tw11761307763129911718:=0
def tw7038060853898273405:=0
def tw12341536150549292369:=0
def tw3149151866534398915:=0
def tw11322648265801425391:=0
def tw4208476420298091318:=0
def tw15440855264477436349:=0
def tw1152255853784395047:=0
def tw7093300498757401730:=0
def tw6455319918844702658:=0
def tw3084225635611253085:=0
def tw7054065211754293935:=0
def tw8840480049569205650:=0
def tw2218652384390780856:=0
def tw7113631441341029029:=0
def tw14183654270192504310:=0
def tw7784735980273508626:=0
def tw3154448039090290663:=0
def tw16337248784163359547:=0
def tw718079084738420039:=0
def tw6297971783868588540:=0
def tw9797021563201546229:=0
def tw4515239505135897595:=0
def tw9358190836105330474:=0
def tw12021830863254699444:=0
def tw12189363208850005067:=0
def tw9473526942598940667:=0
def tw164874653471699901:=0
def tw14211988918974215808:=0
def tw5119270164016950366:=0
def tw6438334579673091894:=0
def tw6570617845919534865:=0
def tw4449565509466128467:=0
def tw5799508857330742994:=0
def tw6939007145729286375:=0
def tw18338899278037516850:=0
def tw11367331472801618522:=0
def tw2358522099327734454:=0
def tw2568886983996646208:=0
def tw11670574633642206192:=0
def tw15060617026355559935:=0
def tw3415888980235051691:=0
def tw2496569601078892727:=0
def tw6362479913416967377:=0
def tw7266419439980517442:=0
def tw2238217196318303634:=0
def tw4628459029728916145:=0
def tw9902717916195384744:=0
def tw17711781532833542477:=0
def tw2353480722445223438:=0
def tw8731490639320585406:=0
def tw16770241208509955120:=0
def tw8681675345263207012:=0
def tw17678860445110983858:=0
def tw14596946379170228886:=0
def tw16556763707061339421:=0
def tw15473799405117263166:=0
def tw11902134219023288210:=0
def tw5125608391942958389:=0
def tw1254129565818145978:=0
def tw9349845442942997775:=0
def tw1452077275573595703:=0
def tw1146996527596275874:=0
def tw5262454812266049268:=0
def tw17390538706494268596:=0
def tw15833494563906553561:=0
def tw11723454378259962271:=0
def tw4524640191765760195:=0
def tw13851655372879607981:=0
def tw500534549881043946:=0
def tw3542601097591466614:=0
def tw3063029241594940426:=0
def tw4504259127705638023:=0
def tw9231997266940586521:=0
def tw15367621675451376935:=0
def tw11608616391804243787:=0
def tw8215506081213330884:=0
def tw8421637688799407778:=0
def tw5006751972002382638:=0
def tw17377573946727693540:=0
def tw11720431426629159392:=0
def tw2164132564981923395:=0
def tw15736606727491310890:=0
def tw13430351039467292361:=0
def tw18358813419484982772:=0
def tw14891263354967870667:=0
def tw8125921289749374806:=0
def tw13647708566880745391:=0
def tw8888945358121339100:=0
def tw3819709409346238598:=0
def tw11183758760771994836:=0
def tw11039513060920229740:=0
def tw2635057997611027177:=0
def tw6073384326086520592:=0
def tw3375988569687603313:=0
def tw8463725453251973814:=0
def tw786752083315185067:=0
def tw1673517629630554910:=0
def tw14420626728773633546:=0
def tw16344884258215704933:=0
def tw2503574571035701653:=0
def tw6259911462891042218:=0
def tw11436182273933347122:=0
def tw7754049088703489575:=0
def tw2075398985395165062:=0
def tw16274204550221198504:=0
def tw10908033546667456663:=0
def tw1659988270438149077:=0
def tw7747294675688112823:=0
def tw1564598111016546311:=0
def tw10760650005616164327:=0
def tw6144891785928343745:=0
def tw15202780915782884907:=0
def tw4987832311445014413:=0
end PySem.W.Fast
open PySem PySem.W PyProof.Rows
theorem PySem.Challenge.cw_pacehall_k75_whole_up_to_4096_places_holds : PySem.Challenge.rw_pacehall_k75_whole_up_to_4096_places.Holds := by
 w_on;o_law;k_head;(case hw=>w_witness2)
 k_fill
 refine PH.walk (l:=PySem.Challenge.rw_pacehall_k75_whole_up_to_4096_places) rfl rfl (λ w h Y=>PySem.W.kIn_of Y) ?F
 case F=>
  intro w mg fa h KX G hmg
  refine' PH.QG KX G hmg ?y0 ?y1 ?y2 ?y3 ?y4 ?y5 ?y6 ?y7 ?y8 ?y9 ?y10 ?F0 ?F1 ?a2 ?F2 ?a3 ?F3 ?a4 ?F4 ?a5 ?F5 ?a6 ?F6 ?a7 ?F7 ?a8 ?F8 ?a9 ?F9 ?a10 ?F10 ?a11 ?F11 ?a12 ?F12 ?a13 ?F13 ?a14 ?F14 ?a15 ?F15 ?F16 ?F17 ?F18 ?F19 ?F20 ?F21 ?F22 ?F23 ?a24 ?F24 ?a25 ?l25 ?q25 ?c25 ?k25 ?a26 ?F26 ?a27 ?F27 ?a28 ?F28 ?a29 ?F29 ?a30 ?F30 ?a31 ?F31 ?a32 ?F32 ?a33 ?F33 ?a34 ?F34 ?a35 ?F35 ?a36 ?F36 ?a37 ?F37 ?a38 ?F38 ?a39 ?F39 ?a40 ?F40 ?a41 ?F41 ?a42 ?F42 ?a43 ?F43 ?a44 ?F44 ?a45 ?F45 ?a46 ?F46 ?a47 ?F47 ?F48 ?F49 ?F50 ?F51 ?F52 ?F53 ?a54 ?F54 ?a55 ?F55 ?a56 ?F56 ?a57 ?F57 ?a58 ?F58 ?a59 ?F59 ?a60 ?F60 ?a61 ?F61 ?a62 ?F62 ?a63 ?F63 ?a64 ?F64 ?a65 ?F65 ?a66 ?F66 ?a67 ?F67 ?a68 ?l68 ?c68 ?k68 ?fi_TooMany ?xe_TooMany ?xf_TooMany ?xo_TooMany ?xs_TooMany ?xh_TooMany ?nt_TooMany_number ?nf_TooMany_number ?bs_PaceError ?br_PaceError ?bf_PaceError ?fi_Twice ?xe_Twice ?xf_Twice ?xo_Twice ?xs_Twice ?xh_Twice ?nt_Twice_one ?nf_Twice_one ?nt_Twice_other ?nf_Twice_other ?pg_View ?hd_View ?po_View ?sa_View ?nf_View_axes ?nf_View_first ?nf_View_room ?fi_View___init__ ?fn_View___init__ ?mm_View ?ck_View ?fi_View_sizes ?fn_View_sizes ?fi_View_paces ?fn_View_paces ?fi_View_count ?fn_View_count ?fi_View_cell ?fn_View_cell ?fi_View_cells ?fn_View_cells ?fi_View_least ?fn_View_least ?fi_View_greatest ?fn_View_greatest ?pg_Store ?hd_Store ?po_Store ?sa_Store ?nf_Store_floor ?fi_Store___init__ ?fn_Store___init__ ?mm_Store ?ck_Store ?fi_Store_all_values ?fn_Store_all_values ?fi_Store_refuse_room ?fn_Store_refuse_room ?fi_Store_read ?fn_Store_read ?fi_Store_put ?fn_Store_put ?fi_Store_copied ?fn_Store_copied ?w0 ?w1 ?w2 ?w3 ?z0 ?z1 ?z2 ?z3 ?z4 ?z5 ?z6 ?z7 ?z8 ?z9 ?z10 ?z11 ?z12 ?z13 ?z14 ?z15
  (case y0|y1|y2|y3|y4|y5|y6|y7|y8|y9|y10|fi_TooMany=>first|k_is|k_exc|kts_exm|decide|rfl|decide +kernel|kernel_rfl)
  (case fi_Twice|fi_View___init__|fi_View_sizes|fi_View_paces|fi_View_count|fi_View_cell|fi_View_cells|fi_View_least|fi_View_greatest|fi_Store___init__|fi_Store_all_values|fi_Store_refuse_room=>first|k_is|k_exc|kts_exm|decide|rfl|decide +kernel|kernel_rfl)
  (case fi_Store_read|fi_Store_put|fi_Store_copied|a2|a3|a4|a5|a6|a7|a8|a9|a10=>first|k_is|k_exc|kts_exm|decide|rfl|decide +kernel|kernel_rfl)
  (case a11|a12|a13|a14|a15|a24|a25|a26|a27|a28|a29|a30=>first|k_is|k_exc|kts_exm|decide|rfl|decide +kernel|kernel_rfl)
  (case a31|a32|a33|a34|a35|a36|a37|a38|a39|a40|a41|a42=>first|k_is|k_exc|kts_exm|decide|rfl|decide +kernel|kernel_rfl)
  (case a43|a44|a45|a46|a47|a54|a55|a56|a57|a58|a59|a60=>first|k_is|k_exc|kts_exm|decide|rfl|decide +kernel|kernel_rfl)
  (case a61|a62|a63|a64|a65|a66|a67|a68=>first|k_is|k_exc|kts_exm|decide|rfl|decide +kernel|kernel_rfl)
  (case F0|F1|F2|F3|F4|F5|F6|F7|F8|F9|F10|F11=>(refine' L2.M4 ?l ?c ?k;(case l|c|k=>first|k_is|k_exc|kts_exm|decide|rfl|decide +kernel|kernel_rfl)))
  (case F12|F13|F14|F15|F16|F17|F18|F19|F20|F21|F22|F23=>(refine' L2.M4 ?l ?c ?k;(case l|c|k=>first|k_is|k_exc|kts_exm|decide|rfl|decide +kernel|kernel_rfl)))
  (case F24|F26|F27|F28|F29|F30|F31|F32|F33|F34|F35|F36=>(refine' L2.M4 ?l ?c ?k;(case l|c|k=>first|k_is|k_exc|kts_exm|decide|rfl|decide +kernel|kernel_rfl)))
  (case F37|F38|F39|F40|F41|F42|F43|F44|F45|F46|F47|F48=>(refine' L2.M4 ?l ?c ?k;(case l|c|k=>first|k_is|k_exc|kts_exm|decide|rfl|decide +kernel|kernel_rfl)))
  (case F49|F50|F51|F52|F53|F54|F55|F56|F57|F58|F59|F60=>(refine' L2.M4 ?l ?c ?k;(case l|c|k=>first|k_is|k_exc|kts_exm|decide|rfl|decide +kernel|kernel_rfl)))
  (case F61|F62|F63|F64|F65|F66|F67=>(refine' L2.M4 ?l ?c ?k;(case l|c|k=>first|k_is|k_exc|kts_exm|decide|rfl|decide +kernel|kernel_rfl)))
  (case l25|q25|c25|k25|l68|c68|k68|xe_TooMany|xf_TooMany|xo_TooMany|xs_TooMany|xh_TooMany=>first|k_is|k_exc|kts_exm|decide|rfl|decide +kernel|kernel_rfl)
  (case nt_TooMany_number|nf_TooMany_number|bs_PaceError|br_PaceError|bf_PaceError|xe_Twice|xf_Twice|xo_Twice|xs_Twice|xh_Twice|nt_Twice_one|nf_Twice_one=>first|k_is|k_exc|kts_exm|decide|rfl|decide +kernel|kernel_rfl)
  (case nt_Twice_other|nf_Twice_other|pg_View|hd_View|po_View|sa_View|nf_View_axes|nf_View_first|nf_View_room|fn_View___init__|mm_View|ck_View=>first|k_is|k_exc|kts_exm|decide|rfl|decide +kernel|kernel_rfl)
  (case fn_View_sizes|fn_View_paces|fn_View_count|fn_View_cell|fn_View_cells|fn_View_least|fn_View_greatest|pg_Store|hd_Store|po_Store|sa_Store|nf_Store_floor=>first|k_is|k_exc|kts_exm|decide|rfl|decide +kernel|kernel_rfl)
  (case fn_Store___init__|mm_Store|ck_Store|fn_Store_all_values|fn_Store_refuse_room|fn_Store_read|fn_Store_put|fn_Store_copied|w0|w1|w2|w3=>first|k_is|k_exc|kts_exm|decide|rfl|decide +kernel|kernel_rfl)
  (case z0|z1|z2|z3|z4|z5|z6|z7|z8|z9|z10|z11=>first|k_is|k_exc|kts_exm|decide|rfl|decide +kernel|kernel_rfl)
  (case z12|z13|z14|z15=>first|k_is|k_exc|kts_exm|decide|rfl|decide +kernel|kernel_rfl)
#print axioms PySem.Challenge.cw_pacehall_k75_whole_up_to_4096_places_holds